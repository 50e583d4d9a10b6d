import PyProof.Rows.All
import Wide.All
import OpenK.AllK
import Wide.FinOn
import Lean
import PyProof.EqAt
import PyProof.EqKinds
import PyProof.TupleCall
import PyProof.ExcBaseAll.ValueError
import PyProof.RulesAs
import PyProof.RulesDel
import PyProof.ExcArgsOwn
import PyProof.Draws
import PyProof.EnumFor
import PyProof.EnumMake
import OpenK.KOwn
import KE.RegKIsAll
import PySem.Challenge.RW_fewthings_k12_whole_books_judged
namespace PySem.W.Fast
def tw292155132426205703:=0
def tw1030964604891198279:=0
def tw8252670643910908049:=0
def tw16871121773568839522:=0
def tw8619470810678131702:=0
def tw12364735653160040650:=0
def tw9231429807517183973:=0
def tw16396318314129594196:=0
def tw14825351306924187576:=0
def tw18438546758388221894:=0
def tw7191226053868837915:=0
def tw14843904017158873010:=0
def tw9571826038111879510:=0
def tw2338860715999034868:=0
def tw16751308838943523442:=0
def tw5739962606956589655:=0
def tw18004230796402018286:=0
def tw12106905370043772506:=0
def tw11477937483660089868:=0
def tw2046305318328851654:=0
def tw15723059421594344392:=0
def tw2269159766351588946:=0
def tw8471849659313496302:=0
def tw17506404937770119430:=0
def tw1356388826154321268:=0
def tw18215911752208820112:=0
def tw16234601460912233647:=0
def tw14340735157261246519:=0
def tw11267705169456967203:=0
def tw3728660213457023895:=0
def tw2742120582468420580:=0
def tw17610086870735738557:=0
end PySem.W.Fast
set_option Elab.async false
set_option linter.all false
set_option maxRecDepth 100000
namespace L2
open PySem PySem.Spec PyProof.Rows
abbrev Key := Sum Int Str
def keyIs : Key → Value → Bool
 | .inl k, v => Value.isInt k v
 | .inr x, v => Value.isStrOf x v
def keyH (w : World) : Key → Int
 | .inl k => hashInt k
 | .inr x => hashStr w x
theorem keyIs_shape : ∀ {k : Key} {v : Value}, keyIs k v = true → (∃ i t, k = Sum.inl i ∧ v = Value.int i t) ∨ (∃ x t, k = Sum.inr x ∧ v = Value.str x t)
 | .inl i, v, h => by
  obtain ⟨t, e⟩ := Value.isInt_shape (k := i) (v := v) h
  exact .inl ⟨i, t, rfl, e⟩
 | .inr x, v, h => by
  obtain ⟨t, e⟩ := Value.isStrOf_shape (x := x) (v := v) h
  exact .inr ⟨x, t, rfl, e⟩
theorem keyIs_int (i : Int) (t : Tok) : keyIs (.inl i) (.int i t) = true := by simp [keyIs, Value.isInt]
theorem keyIs_str (x : Str) (t : Tok) : keyIs (.inr x) (.str x t) = true := by simp [keyIs, Value.isStrOf]
theorem key_ll (a b : Int) : decide ((Sum.inl a : Key) = Sum.inl b) = (a == b) := by
 by_cases e : a = b
 ·subst e; simp
 ·have h : ¬ (Sum.inl a : Key) = Sum.inl b := fun q => e (Sum.inl.inj q)
  rw [decide_eq_false h]
  exact (beq_eq_false_iff_ne.mpr e).symm
theorem key_rr (a b : Str) : decide ((Sum.inr a : Key) = Sum.inr b) = decide (a = b) := by
 by_cases e : a = b
 ·subst e; simp
 ·have h : ¬ (Sum.inr a : Key) = Sum.inr b := fun q => e (Sum.inr.inj q)
  rw [decide_eq_false h, decide_eq_false e]
theorem key_lr (a : Int) (b : Str) : decide ((Sum.inl a : Key) = Sum.inr b) = false := decide_eq_false (fun q => nomatch q)
theorem key_rl (a : Str) (b : Int) : decide ((Sum.inr a : Key) = Sum.inl b) = false := decide_eq_false (fun q => nomatch q)
def mixKind (prog : Program) (w : World) : PySem.KeyKind prog w Key where
 is := keyIs
 hash := keyH w
 inj := fun v a b ha hb => by
  rcases keyIs_shape ha with ⟨i, t, rfl, rfl⟩ | ⟨x, t, rfl, rfl⟩
  ·rcases keyIs_shape hb with ⟨j, u, rfl, e⟩ | ⟨y, u, rfl, e⟩
   ·injection e with e1 _; rw [e1]
   ·exact nomatch e
  ·rcases keyIs_shape hb with ⟨j, u, rfl, e⟩ | ⟨y, u, rfl, e⟩
   ·exact nomatch e
   ·injection e with e1 _; rw [e1]
 byValue := fun k v h => by
  rcases keyIs_shape h with ⟨i, t, rfl, rfl⟩ | ⟨x, t, rfl, rfl⟩ <;> rfl
 pyHash := fun hv h => by
  rcases keyIs_shape hv with ⟨i, t, rfl, rfl⟩ | ⟨x, t, rfl, rfl⟩
  ·exact wpAny_pyHash_int h
  ·exact wpAny_pyHash_str h
 eqBool := fun hu hv h => by
  rcases keyIs_shape hu with ⟨i, t, rfl, rfl⟩ | ⟨x, t, rfl, rfl⟩
  ·rcases keyIs_shape hv with ⟨j, u, rfl, rfl⟩ | ⟨y, u, rfl, rfl⟩
   ·rw [key_ll] at h; exact wpAny_eqBool_int h
   ·rw [key_lr] at h; exact SeqAt.EqAt.int_str i t y u _ _ _ _ h
  ·rcases keyIs_shape hv with ⟨j, u, rfl, rfl⟩ | ⟨y, u, rfl, rfl⟩
   ·rw [key_rl] at h; exact SeqAt.EqAt.str_int x t j u _ _ _ _ h
   ·rw [key_rr] at h; exact wpAny_eqBool_str h
 «strs» := fun k x t v h => by
  rcases keyIs_shape h with ⟨i, u, rfl, e⟩ | ⟨y, u, rfl, e⟩
  ·exact nomatch e
  ·injection e with e1 _
   subst e1
   cases v <;> rfl
theorem mixKind_int (prog : Program) (w : World) (i : Int) (t : Tok) : (mixKind prog w).is (.inl i) (.int i t) = true := keyIs_int i t
theorem mixKind_str (prog : Program) (w : World) (x : Str) (t : Tok) : (mixKind prog w).is (.inr x) (.str x t) = true := keyIs_str x t
end L2
namespace L2
open PySem PySem.Spec PyProof.Rows
inductive V where
 | non | bl (b : Bool) | int (i : Int) | str (x : Str) | byt (b : Array UInt8) | flt (b : UInt64) | ref (a : Addr) | ty (n : String)
 deriving DecidableEq
def RelV : V → Value → Prop
 | .non, u => u = Value.none
 | .bl b, u => u = Value.bool b
 | .int i, u => ∃ t, u = Value.int i t
 | .str x, u => ∃ t, u = Value.str x t
 | .byt b, u => ∃ t, u = Value.bytes b t
 | .flt b, u => ∃ t, u = Value.float b t
 | .ref a, u => u = Value.ref a
 | .ty n, u => u = Value.type n
abbrev Vals : List V → List Value → Prop := Paired RelV
theorem Vals.length {xs : List V} {us : List Value} (r : Vals xs us) : xs.length = us.length := Paired.length r
theorem Vals.get : ∀ {xs : List V} {us : List Value} {i : Nat} {x : V}, Vals xs us → xs[i]? = some x → ∃ u, us[i]? = some u ∧ RelV x u
 | _, _, _, _, .nil, e => by simp at e
 | _, _, 0, _, .cons r _, e => by simp at e; subst e; exact ⟨_, rfl, r⟩
 | _, _, i + 1, x, .cons _ t, e => by
  obtain ⟨u, h1, h2⟩ := Vals.get (i := i) (x := x) t (by simpa using e)
  exact ⟨u, by simpa using h1, h2⟩
theorem Vals.set {x : V} {u : Value} (r : RelV x u) : ∀ {xs : List V} {us : List Value} (i : Nat), Vals xs us → Vals (xs.set i x) (us.set i u)
 | _, _, _, .nil => .nil
 | _, _, 0, .cons _ t => .cons r t
 | _, _, i + 1, .cons q t => .cons q (Vals.set r i t)
theorem Vals.append : ∀ {xs ys : List V} {us ws : List Value}, Vals xs us → Vals ys ws → Vals (xs ++ ys) (us ++ ws)
 | _, _, _, _, .nil, s => s
 | _, _, _, _, .cons r t, s => .cons r (Vals.append t s)
theorem Vals.take : ∀ {xs : List V} {us : List Value} (n : Nat), Vals xs us → Vals (xs.take n) (us.take n)
 | _, _, 0, _ => .nil
 | _, _, _ + 1, .nil => .nil
 | _, _, n + 1, .cons r t => .cons r (Vals.take n t)
theorem Vals.drop : ∀ {xs : List V} {us : List Value} (n : Nat), Vals xs us → Vals (xs.drop n) (us.drop n)
 | _, _, 0, r => r
 | _, _, _ + 1, .nil => .nil
 | _, _, n + 1, .cons _ t => Vals.drop n t
def RelO : Option V → Option Value → Prop
 | some v, some u => RelV v u
 | none, none => True
 | _, _ => False
def KV {κ : Type} : List (κ × V) → List (κ × Value) → Prop := Paired fun (p : κ × V) (q : κ × Value) => p.1 = q.1 ∧ RelV p.2 q.2
def kV : Key → V
 | .inl i => .int i
 | .inr x => .str x
inductive HO where
 | lst (xs : List V)
 | tup (xs : List V)
 | dK (kvs : List (Key × V)) | dT (kvs : List (List Key × V))
 | set (S : Int → Bool) (n : Nat)
 | ins (C dx : Addr) (fs : List (Str × V))
 | own (x : Addr)
 | xd (fs : List (Str × V))
 | met (f x : Addr)
 | rng (lo hi : Int)
 | frz (o : Obj) (u : HO)
 | tbl (ps : Array Value)
 | ext (φ : Heap → Prop)
abbrev Hp := Addr → Option HO
def upd (H : Hp) (a : Addr) (o : HO) : Hp := fun b => if b = a then some o else H b
theorem upd_same {H : Hp} {a : Addr} {o : HO} : upd H a o a = some o := by unfold upd; rw [if_pos rfl]
theorem upd_ne {H : Hp} {a b : Addr} {o : HO} (h : b ≠ a) : upd H a o b = H b := by unfold upd; rw [if_neg h]
theorem ne_of_none {H : Hp} {a b : Addr} {o : HO} (h : H a = some o) (h' : H b = none) : a ≠ b := by
 intro e; subst e; rw [h] at h'; cases h'
section
variable (P : Program) (w : World)
def ObjOk (H : Hp) (h : Heap) (a : Addr) : HO → Prop
 | .lst xs => xs.length ≤ sizeLine ∧ ∃ (its : List Value) (n : Nat), Vals xs its ∧ h.get? a = some { cls := .type "list", data := .seq its.toArray n }
 | .tup xs => xs.length ≤ sizeLine ∧ ∃ its : List Value, Vals xs its ∧ IsTup h a its.toArray
 | .dK kvs => kvs.length ≤ sizeLine ∧ (a == sysModules) = false ∧ ∃ vs, KV kvs vs ∧ h.DictOf (mixKind P w) a vs
 | .dT kvs => kvs.length ≤ sizeLine ∧ (a == sysModules) = false ∧ ∃ xs : List (List Key × Addr × Value),
   Paired (fun (p : List Key × V) (q : List Key × Addr × Value) => p.1 = q.1 ∧ H q.2.1 = some (.tup (p.1.map kV)) ∧ RelV p.2 q.2.2) kvs xs ∧
   ∃ o es ep, h.get? a = some o ∧ o.ExactDict ∧ o.data = .dict es ep ∧ es.toList = xs.map (entryOfKey (tupleKind (mixKind P w))) ∧ (xs.map (·.1)).Nodup
 | .set S n => h.SetOf (intKind P w) a S n
 | .ins C dx fs => H dx = some (.own a) ∧ fs.length ≤ 1000 ∧ dx ≠ a ∧ h.get? a = some (PySem.W.instObj C dx) ∧
   ∃ mA, h.Ns1 dx mA ∧ (∀ f, RelO (fs.lookup f) (mA f)) ∧ PySem.Within mA (fs.map (·.1))
 | .own _ => ∃ o, h.get? a = some o
 | .xd fs => ∃ mA, h.Ns1 a mA ∧ ∀ f, RelO (fs.lookup f) (mA f)
 | .rng lo hi => ∃ t u v, h.get? a = some { cls := .type "range", data := .fields #[.int lo t, .int hi u, .int 1 v] }
 | .frz o u => h.get? a = some o ∧ ObjOk H h a u
 | .tbl ps => h.get? a = some { cls := .none, data := .fields ps }
 | .met f x => h.get? a = some (PySem.W.methodObj (.ref f) (.ref x))
 | .ext φ => φ h ∧ (∃ o, h.get? a = some o) ∧ ∀ h1 h2 : Heap, φ h1 → (∀ o, h1.get? a = some o → h2.get? a = some o) → φ h2
def HOk (H : Hp) (h : Heap) : Prop := ∀ a o, H a = some o → ObjOk P w H h a o
end
section
variable {P : Program} {w : World} {H H' : Hp} {h h' : Heap} {a : Addr} {o : HO}
theorem ObjOk.lt (x : ObjOk P w H h a o) : a < h.objs.size := by
 cases o with
 | lst xs => obtain ⟨_, _, _, _, e⟩ := x; exact Heap.lt_size e
 | tup xs => obtain ⟨_, _, _, p⟩ := x; exact p.lt
 | dK kvs => obtain ⟨_, _, _, _, o, _, _, e, _⟩ := x; exact Heap.lt_size e
 | dT kvs => obtain ⟨_, _, _, _, o, _, _, e, _⟩ := x; exact Heap.lt_size e
 | set S n => obtain ⟨o, _, _, _, e, _⟩ := x; exact Heap.lt_size e
 | ins C dx fs => obtain ⟨_, _, _, e, _⟩ := x; exact Heap.lt_size e
 | own y => obtain ⟨_, e⟩ := x; exact Heap.lt_size e
 | xd fs => obtain ⟨_, ⟨_, _, _, e, _⟩, _⟩ := x; exact Heap.lt_size e
 | rng lo hi => obtain ⟨_, _, _, e⟩ := x; exact Heap.lt_size e
 | frz ob u => obtain ⟨e, _⟩ := x; exact Heap.lt_size e
 | tbl ps => exact Heap.lt_size (show h.get? a = some _ from x)
 | met f y => exact Heap.lt_size (show h.get? a = some _ from x)
 | ext φ => obtain ⟨_, ⟨_, e⟩, _⟩ := x; exact Heap.lt_size e
theorem Paired.mapP {α β : Type} {F G : α → β → Prop} : ∀ {l₁ : List α} {l₂ : List β}, Paired F l₁ l₂ → (∀ a b, F a b → G a b) → Paired G l₁ l₂
 | _, _, .nil, _ => .nil
 | _, _, .cons r t, f => .cons (f _ _ r) (Paired.mapP t f)
theorem ObjOk.stay (x : ObjOk P w H h a o) (k : ∀ b u, (b = a ∨ H b = some (.own a)) → h.get? b = some u → h'.get? b = some u)
  (ho : ∀ b, H b = some (.own a) → H' b = some (.own a)) (ht : ∀ b xs, H b = some (.tup xs) → H' b = some (.tup xs)) : ObjOk P w H' h' a o := by
 induction o with
 | lst xs => obtain ⟨z, its, n, r, e⟩ := x; exact ⟨z, its, n, r, k _ _ (.inl rfl) e⟩
 | tup xs => obtain ⟨z, its, r, ob, e, c⟩ := x; exact ⟨z, its, r, ob, k _ _ (.inl rfl) e, c⟩
 | dK kvs => obtain ⟨z, y, vs, r, ob, es, ep, e, c⟩ := x; exact ⟨z, y, vs, r, ob, es, ep, k _ _ (.inl rfl) e, c⟩
 | dT kvs =>
  obtain ⟨z, y, xs, r, ob, es, ep, e, c⟩ := x
  exact ⟨z, y, xs, Paired.mapP r fun p q z => ⟨z.1, ht _ _ z.2.1, z.2.2⟩, ob, es, ep, k _ _ (.inl rfl) e, c⟩
 | set S n => obtain ⟨ob, es, ep, t, e, c⟩ := x; exact ⟨ob, es, ep, t, k _ _ (.inl rfl) e, c⟩
 | ins C dx fs =>
  obtain ⟨d, z, ne, e, mA, ⟨od, es, ep, e2, c⟩, r⟩ := x
  exact ⟨ho _ d, z, ne, k _ _ (.inl rfl) e, mA, ⟨od, es, ep, k _ _ (.inr d) e2, c⟩, r⟩
 | own y => obtain ⟨ob, e⟩ := x; exact ⟨ob, k _ _ (.inl rfl) e⟩
 | xd fs => obtain ⟨mA, ⟨od, es, ep, e, c⟩, r⟩ := x; exact ⟨mA, ⟨od, es, ep, k _ _ (.inl rfl) e, c⟩, r⟩
 | rng lo hi => obtain ⟨t, u, v, e⟩ := x; exact ⟨t, u, v, k _ _ (.inl rfl) e⟩
 | frz ob u ih => obtain ⟨e, q⟩ := x; exact ⟨k _ _ (.inl rfl) e, ih q⟩
 | tbl ps =>
  have e : h.get? a = some { cls := .none, data := .fields ps } := x
  show h'.get? a = some { cls := .none, data := .fields ps }
  exact k a _ (.inl rfl) e
 | met f y =>
  have e : h.get? a = some (PySem.W.methodObj (.ref f) (.ref y)) := x
  show h'.get? a = some (PySem.W.methodObj (.ref f) (.ref y))
  exact k a _ (.inl rfl) e
 | ext φ => obtain ⟨p, ⟨o, e⟩, st⟩ := x; exact ⟨st _ _ p fun o q => k _ _ (.inl rfl) q, ⟨o, k _ _ (.inl rfl) e⟩, st⟩
theorem HOk.lt (x : HOk P w H h) (e : H a = some o) : a < h.objs.size := (x a o e).lt
theorem HOk.fresh (x : HOk P w H h) (e : h.objs.size ≤ a) : H a = none := by
 cases q : H a with
 | none => rfl
 | some u => exact absurd (Nat.lt_of_lt_of_le (x.lt q) e) (Nat.lt_irrefl _)
theorem HOk.kept (x : HOk P w H h) (k : ∀ b u, h.get? b = some u → h'.get? b = some u) : HOk P w H h' := fun a o e =>
 (x a o e).stay (fun b u _ q => k b u q) (fun _ q => q) fun _ _ q => q
theorem HOk.laid (x : HOk P w H h) (k : ∀ b u, h.get? b = some u → h'.get? b = some u) (hp : h.objs.size ≤ a) (new : ObjOk P w (upd H a o) h' a o) : HOk P w (upd H a o) h' := fun b u e => by
 have hn := x.fresh hp
 by_cases hb : b = a
 ·subst hb; rw [upd_same] at e; cases e; exact new
 ·rw [upd_ne hb] at e
  exact (x b u e).stay (fun c v _ q => k c v q) (fun c q => by rw [upd_ne (ne_of_none q hn)]; exact q) fun c xs q => by rw [upd_ne (ne_of_none q hn)]; exact q
end
def Rd (H : Hp) (a : Addr) (u : HO) : Prop := H a = some u ∨ ∃ o, H a = some (.frz o u)
theorem Rd.ok {P : Program} {w : World} {H : Hp} {h : Heap} {a : Addr} {u : HO} (r : Rd H a u) (x : HOk P w H h) : ObjOk P w H h a u := by
 rcases r with r | ⟨o, r⟩
 ·exact x a u r
 ·obtain ⟨_, q⟩ := x a _ r
  exact q
def Mut : Option HO → Prop
 | some (.lst _) => True
 | some (.dK _) => True
 | some (.dT _) => True
 | some (.set _ _) => True
 | some (.ins _ _ _) => True
 | some (.ext _) => True
 | _ => False
section
variable {P : Program} {w : World} {H : Hp} {h h' : Heap} {x e : Addr} {o' : HO}
theorem HOk.write (ok : HOk P w H h) (mu : Mut (H x)) (he : e = x ∨ H e = some (.own x)) (k : ∀ b u, b ≠ e → h.get? b = some u → h'.get? b = some u) (heo : ∃ u, h'.get? e = some u)
  (new : ObjOk P w (upd H x o') h' x o') : HOk P w (upd H x o') h' := fun b u q => by
 have nown : ∀ c y, H c = some (.own y) → c ≠ x := fun c y r z => by subst z; rw [r] at mu; exact mu
 have ntup : ∀ c xs, H c = some (.tup xs) → c ≠ x := fun c xs r z => by subst z; rw [r] at mu; exact mu
 by_cases hb : b = x
 ·subst hb; rw [upd_same] at q; cases q; exact new
 ·rw [upd_ne hb] at q
  by_cases hbe : b = e
  ·have q' : H b = some (.own x) := by
    rcases he with z | z
    ·exact absurd (hbe.trans z) hb
    ·rw [hbe]; exact z
   rw [q] at q'; cases q'
   obtain ⟨v, hv⟩ := heo
   exact ⟨v, by rw [hbe]; exact hv⟩
  ·refine (ok b u q).stay (fun c v hc r => k c v ?_ r) (fun c r => by rw [upd_ne (nown c b r)]; exact r) fun c xs r => by rw [upd_ne (ntup c xs r)]; exact r
   rcases hc with rfl | hc
   ·exact hbe
   ·rintro rfl
    rcases he with z | z
    ·exact nown c b hc z
    ·rw [hc] at z; cases z; exact hb rfl
end
structure Un (fs ex : List Addr) (H H' : Hp) (h h' : Heap) : Prop where
 keep : ∀ b o, h.get? b = some o → H b = none → b ∉ fs → b ∉ ex → h'.get? b = some o
 slot : ∀ b o, h.get? b = some o → H b = none → b ∈ fs → b ∉ ex → ∃ sl, h'.get? b = some { o with slots := sl }
 free : ∀ b o, h.get? b = some o → H b = none → b ∉ ex → H' b = none
 there : ∀ b o, h.get? b = some o → b ∉ ex → ∃ o', h'.get? b = some o'
 tups : ∀ b xs, H b = some (.tup xs) → H' b = some (.tup xs)
 frzs : ∀ b o u, H b = some (.frz o u) → H' b = some (.frz o u)
 tbls : ∀ b ps, H b = some (.tbl ps) → ∃ more, H' b = some (.tbl (ps ++ more))
section
variable {fs fs' ex ex' : List Addr} {H H1 H2 : Hp} {h h1 h2 h' : Heap} {a x e : Addr} {o : HO}
theorem Un.any (u : Un fs ex H H1 h h1) {b : Addr} {ob : Obj} (q : h.get? b = some ob) (n : H b = none) (hx : b ∉ ex) : ∃ sl, h1.get? b = some { ob with slots := sl } := by
 by_cases hb : b ∈ fs
 ·exact u.slot b ob q n hb hx
 ·exact ⟨ob.slots, u.keep b ob q n hb hx⟩
theorem Un.kept (k : ∀ b u, h.get? b = some u → h'.get? b = some u) : Un fs ex H H h h' :=
 ⟨fun b ob q _ _ _ => k b ob q, fun b ob q _ _ _ => ⟨ob.slots, k b ob q⟩, fun _ _ _ n _ => n, fun b ob q _ => ⟨ob, k b ob q⟩, fun _ _ q => q, fun _ _ _ q => q, fun _ ps q => ⟨#[], by rw [q]; simp⟩⟩
theorem Un.refl : Un fs ex H H h h := Un.kept fun _ _ q => q
theorem Un.laid (k : ∀ b u, h.get? b = some u → h'.get? b = some u) (hp : h.objs.size ≤ a) (hn : H a = none) : Un fs ex H (upd H a o) h h' where
 keep := fun b u q _ _ _ => k b u q
 slot := fun b u q _ _ _ => ⟨u.slots, k b u q⟩
 free := fun b u q n _ => by rw [upd_ne (Nat.ne_of_lt (Nat.lt_of_lt_of_le (Heap.lt_size q) hp))]; exact n
 there := fun b u q _ => ⟨u, k b u q⟩
 tups := fun b xs q => by rw [upd_ne (ne_of_none q hn)]; exact q
 frzs := fun b u xs q => by rw [upd_ne (ne_of_none q hn)]; exact q
 tbls := fun b ps q => ⟨#[], by rw [upd_ne (ne_of_none q hn), q]; simp⟩
theorem Un.write (mu : Mut (H x)) (he : e = x ∨ H e = some (.own x)) (k : ∀ b u, b ≠ e → h.get? b = some u → h'.get? b = some u) (heo : ∃ u, h'.get? e = some u) : Un fs ex H (upd H x o) h h' := by
 have hx : ∀ b, H b = none → b ≠ x := fun b n z => by subst z; rw [n] at mu; exact mu
 have hb : ∀ b, H b = none → b ≠ e := fun b n z => by
  subst z
  rcases he with r | r
  ·exact hx b n r
  ·rw [n] at r; cases r
 have hm : ∀ b u, H b = some u → ¬ Mut (some u) → b ≠ x := fun b u q nm z => by subst z; rw [q] at mu; exact nm mu
 refine ⟨fun b u q n _ _ => k b u (hb b n) q, fun b u q n _ _ => ⟨u.slots, k b u (hb b n) q⟩, fun b u q n _ => by rw [upd_ne (hx b n)]; exact n, fun b u q _ => ?_,
  fun b xs q => by rw [upd_ne (hm b _ q fun z => z)]; exact q, fun b u xs q => by rw [upd_ne (hm b _ q fun z => z)]; exact q, fun b ps q => ⟨#[], by rw [upd_ne (hm b _ q fun z => z), q]; simp⟩⟩
 by_cases hbe : b = e
 ·subst hbe; exact heo
 ·exact ⟨u, k b u hbe q⟩
end
def trk (h : Heap) (H : Hp) : List Addr := (List.range h.objs.size).filter fun a => (H a).isSome
def hidT (h : Heap) (H : Hp) : Heap := PySem.W.hideAll h (trk h H)
theorem hidT_size (h : Heap) (H : Hp) : (hidT h H).objs.size = h.objs.size := PySem.W.hideAll_size _ _
theorem hidT_get {h : Heap} {H : Hp} {b : Addr} {o : Obj} (e : h.get? b = some o) (n : H b = none) : (hidT h H).get? b = some o :=
 PySem.W.hideAll_get _ e fun hm => by
  have q : (H b).isSome = true := (List.mem_filter.mp hm).2
  rw [n] at q; simp at q
theorem of_hidT {h : Heap} {H : Hp} {b : Addr} {o : Obj} (e : (hidT h H).get? b = some o) : h.get? b = some o ∧ H b = none := by
 have e' : h.get? b = some o := PySem.W.of_hideAll (trk h H) e
 refine ⟨e', ?_⟩
 cases q : H b with
 | none => rfl
 | some x =>
  have hm : b ∈ trk h H := List.mem_filter.mpr ⟨List.mem_range.mpr (Heap.lt_size e'), by simp [q]⟩
  have z : (hidT h H).get? b = none := PySem.W.hideAll_none (trk h H) hm
  rw [z] at e; cases e
def allNews (g h : Heap) (L : Addr) : List (Addr × Obj) := (List.range h.objs.size).filterMap fun a => if a = L ∨ (g.get? a).isSome = true then none else (h.get? a).map fun o => (a, o)
def rest (g h : Heap) (L d : Addr) : List (Addr × Obj) := (allNews g h L).filter fun p => decide (p.1 ≠ d)
end L2
namespace L2
open PySem PySem.Spec PyProof.Rows
structure Mod (K : PySem.W.Frag) (mg : Str → Option Value) (base : Heap) : Prop where
 kin : K.In base
 glob : base.Ns mainGlobals mg
 blt : ∃ mb, base.Ns builtinsNs mb ∧ ∀ x : Str, x ≠ "__name__" → mb x = bootBuiltins x
 nolimit : base.NoLimit
 sys : ∃ mm, base.Ns sysModules mm
structure Cx where
 prog : Program
 w : World
 K : PySem.W.Frag
 mg : Str → Option Value
 base : Heap
 A : Around
 N : List Str
 s₀ : Shared
 H₀ : Hp
 env : Env
 outer : List Env
 stack : List Env
 ex : List Addr
 fn : Str → Bool
 calm : Bool
 pn : List (Addr × Obj)
 xe : Value → Shared → Prop
def frs (l : List Env) : List Addr := l.filterMap (·.frame)
abbrev Cx.fs (X : Cx) : List Addr := frs X.outer
def Vis (sc : Scope) (x : Str) : Prop := sc.names.lookup x = some .local ∨ sc.names.lookup x = some .cell ∨ sc.names.lookup x = some .free
def Loc (sc : Scope) (x : Str) : Prop := sc.names.lookup x = some .local ∨ sc.names.lookup x = some .cell
def Look (env : Env) (h : Heap) (m : Str → Option Value) (x : Str) (u : Value) : Prop :=
 (env.kindOf x = some .local ∧ m x = some u) ∨ ((env.kindOf x = some .cell ∨ env.kindOf x = some .free) ∧ ∃ c, env.cells.lookup x = some c ∧ h.IsCell c (some u))
structure Cx.Ok (X : Cx) : Prop where
 mod : Mod X.K X.mg X.base
 kind : X.env.scope.kind = .function
 glob : X.env.globals = mainGlobals
 blt : X.env.builtins = builtinsNs
 above : X.s₀.heap.objs.size ≤ X.env.locals
 inj : ∀ x y c, X.env.cells.lookup x = some c → X.env.cells.lookup y = some c → x = y
 has : ∀ x, (X.env.kindOf x = some .cell ∨ X.env.kindOf x = some .free) → ∃ c, X.env.cells.lookup x = some c
 cab : ∀ x c, X.fn x = true → X.env.cells.lookup x = some c → X.s₀.heap.objs.size ≤ c
 hd : X.calm = true → X.A.handled = none
 frames : X.A.frames = some X.stack
 stk : X.stack = X.outer ∨ (X.stack = X.env :: X.outer ∧ X.env.frame = some X.env.locals)
 exf : ∀ b ∈ X.ex, b ≠ X.env.locals ∧ ∀ x c, X.env.cells.lookup x = some c → c ≠ b
 bs : ∀ b o, X.base.get? b = some o → X.s₀.heap.get? b = some o ∧ X.H₀ b = none
 bsz : X.base.objs.size ≤ X.s₀.heap.objs.size
 noex : ∀ b o, X.base.get? b = some o → b ∉ X.ex
 exfs : ∀ b ∈ X.ex, b ∉ X.fs
 funs : X.s₀.heap.FunFrames X.base X.outer
 frf : ∀ b ∈ X.fs, X.H₀ b = none
structure Inv (X : Cx) (pins : List (Addr × Obj)) (σ : List (Option V)) (H : Hp) (s : Shared) : Prop where
 ok : X.Ok
 os : s.os = X.s₀.os
 bare : AllBare s.gens
 base : Un X.fs X.ex X.H₀ H X.s₀.heap s.heap
 loc : ∃ m, s.heap.Ns X.env.locals m ∧ ∀ (i : Nat) (x : Str) (v : V), X.N[i]? = some x → σ[i]? = some (some v) → Vis X.env.scope x → ∃ u, RelV v u ∧ Look X.env s.heap m x u
 cell : ∀ x c, X.env.cells.lookup x = some c → ∃ v, s.heap.IsCell c v
 free : H X.env.locals = none
 freeC : ∀ x c, X.env.cells.lookup x = some c → H c = none
 pin : ∀ p ∈ X.pn ++ pins, s.heap.get? p.1 = some p.2 ∧ H p.1 = none ∧ p.1 ≠ X.env.locals ∧ p.1 ∉ X.fs ∧ ∀ v, p.2.data ≠ .cell v
 hok : HOk X.prog X.w H s.heap
 len : σ.length = X.N.length
section
variable {X : Cx} {pins : List (Addr × Obj)} {σ : List (Option V)} {H H' : Hp} {s : Shared} {h' : Heap}
theorem Cx.Ok.nofr (ok : X.Ok) {b : Addr} {o : Obj} (e : X.base.get? b = some o) : b ∉ X.fs := fun hb => by
 have := (ok.funs.mem hb).1
 rw [e] at this; cases this
theorem Inv.bs (I : Inv X pins σ H s) : ∀ b o, X.base.get? b = some o → s.heap.get? b = some o ∧ H b = none := fun b o e =>
 ⟨I.base.keep b o (I.ok.bs b o e).1 (I.ok.bs b o e).2 (I.ok.nofr e) (I.ok.noex b o e), I.base.free b o (I.ok.bs b o e).1 (I.ok.bs b o e).2 (I.ok.noex b o e)⟩
theorem Inv.bk (I : Inv X pins σ H s) : ∀ b o, X.base.get? b = some o → s.heap.get? b = some o := fun b o e => (I.bs b o e).1
theorem Inv.mod (I : Inv X pins σ H s) : Mod X.K X.mg X.base := I.ok.mod
theorem Inv.kIn (I : Inv X pins σ H s) : X.K.In s.heap := I.ok.mod.kin.keeps I.bk
theorem Inv.lt (I : Inv X pins σ H s) : X.env.locals < s.heap.objs.size := let ⟨_, hn, _⟩ := I.loc; hn.lt
theorem Inv.sz (I : Inv X pins σ H s) : X.s₀.heap.objs.size ≤ s.heap.objs.size := Nat.le_trans I.ok.above (Nat.le_of_lt I.lt)
theorem Inv.nofs (I : Inv X pins σ H s) {a : Addr} (h : s.heap.objs.size ≤ a) : a ∉ X.fs := fun hb => by
 obtain ⟨_, o, ho, _⟩ := I.ok.funs.mem hb
 exact absurd (Nat.lt_of_lt_of_le (Heap.lt_size ho) (Nat.le_trans I.sz h)) (Nat.lt_irrefl _)
theorem Inv.cne (I : Inv X pins σ H s) : ∀ x c, X.env.cells.lookup x = some c → c ≠ X.env.locals := fun x c e z => by
 obtain ⟨v, o, ho, hd⟩ := I.cell x c e
 obtain ⟨m, ⟨o', es, ep, ho', hd', _⟩, _⟩ := I.loc
 rw [z, ho'] at ho; cases ho; rw [hd'] at hd; cases hd
theorem Inv.funs (I : Inv X pins σ H s) : s.heap.FunFrames X.base X.outer := by
 have all : ∀ (l : List Env), (∀ b ∈ frs l, b ∈ X.fs) → X.s₀.heap.FunFrames X.base l → s.heap.FunFrames X.base l := by
  intro l
  induction l with
  | nil => intro _ _; trivial
  | cons env r ih =>
   intro hs hl
   obtain ⟨hk, ⟨L, o, hf, hn, ho, hd⟩, hr⟩ := hl
   have hL : L ∈ X.fs := hs L (by unfold frs; rw [List.filterMap_cons, hf]; exact List.mem_cons_self)
   obtain ⟨sl, e⟩ := I.base.slot L o ho (I.ok.frf L hL) hL fun z => I.ok.exfs L z hL
   exact ⟨hk, ⟨L, _, hf, hn, e, hd⟩, ih (fun b hb => hs b (by unfold frs; rw [List.filterMap_cons, hf]; exact List.mem_cons_of_mem _ hb)) hr⟩
 exact all X.outer (fun _ hb => hb) I.ok.funs
theorem Inv.stack (I : Inv X pins σ H s) : s.heap.FunFrames X.base X.stack := by
 rcases I.ok.stk with e | ⟨e, hf⟩
 ·rw [e]; exact I.funs
 ·rw [e]
  obtain ⟨m, hn, _⟩ := I.loc
  refine .cons (by rw [I.ok.kind]; decide) hf hn ?_ I.funs
  exact Heap.get?_none_of_le (Nat.le_trans I.ok.bsz I.ok.above)
theorem Inv.stkSub (I : Inv X pins σ H s) : ∀ b ∈ frs X.stack, b ∈ X.env.locals :: X.fs := fun b hb => by
 rcases I.ok.stk with e | ⟨e, hf⟩
 ·rw [e] at hb; exact List.mem_cons_of_mem _ hb
 ·rw [e] at hb
  unfold frs at hb
  rw [List.filterMap_cons, hf] at hb
  exact hb
theorem Inv.stkFree (I : Inv X pins σ H s) : ∀ b ∈ frs X.stack, H b = none := fun b hb => by
 rcases List.mem_cons.mp (I.stkSub b hb) with e | hb
 ·rw [e]; exact I.free
 ·obtain ⟨_, o, ho, _⟩ := I.ok.funs.mem hb
  exact I.base.free b o ho (I.ok.frf b hb) fun z => I.ok.exfs b z hb
theorem Inv.step {g' : Array GenState} {t' : Nat} {d' : Drawn} {ch : List Addr} (I : Inv X pins σ H s)
  (hch : ∀ b ∈ ch, (b ∈ X.ex ∨ X.s₀.heap.objs.size ≤ b) ∧ b ≠ X.env.locals ∧ (∀ x c, X.env.cells.lookup x = some c → c ≠ b) ∧ ∀ p ∈ X.pn ++ pins, p.1 ≠ b)
  (keep : ∀ b o, b ≠ X.env.locals → b ∉ X.fs → b ∉ ch → s.heap.get? b = some o → H b = none → h'.get? b = some o)
  (slot : ∀ b o, b ≠ X.env.locals → b ∈ X.fs → b ∉ ch → s.heap.get? b = some o → H b = none → ∃ sl, h'.get? b = some { o with slots := sl }) (free : ∀ b o, b ∉ ch → s.heap.get? b = some o → H b = none → H' b = none)
  (there : ∀ b o, b ∉ ch → s.heap.get? b = some o → ∃ o', h'.get? b = some o')
  (tups : ∀ b xs, H b = some (.tup xs) → H' b = some (.tup xs)) (frzs : ∀ b o u, H b = some (.frz o u) → H' b = some (.frz o u)) (tbls : ∀ b ps, H b = some (.tbl ps) → ∃ more, H' b = some (.tbl (ps ++ more)))
  (ns : ∀ m, s.heap.Ns X.env.locals m → h'.Ns X.env.locals m) (hok : HOk X.prog X.w H' h') (hg : AllBare g') :
  Inv X pins σ H' { s with heap := h', gens := g', drawn := d', toks := t' } := by
 have neL : ∀ b o, X.s₀.heap.get? b = some o → b ≠ X.env.locals := fun b o e => Nat.ne_of_lt (Nat.lt_of_lt_of_le (Heap.lt_size e) I.ok.above)
 have neC : ∀ b o, X.s₀.heap.get? b = some o → b ∉ X.ex → b ∉ ch := fun b o e hx hb => by
  rcases (hch b hb).1 with z | z
  ·exact hx z
  ·exact absurd (Nat.lt_of_lt_of_le (Heap.lt_size e) z) (Nat.lt_irrefl _)
 have cellK : ∀ x c, X.env.cells.lookup x = some c → ∀ v, s.heap.IsCell c v → h'.IsCell c v := fun x c e v ⟨o, ho, hd⟩ => by
  have nch : c ∉ ch := fun z => (hch c z).2.2.1 x c e rfl
  by_cases hc : c ∈ X.fs
  ·obtain ⟨sl, q⟩ := slot c o (I.cne x c e) hc nch ho (I.freeC x c e)
   exact ⟨_, q, hd⟩
  ·exact ⟨o, keep c o (I.cne x c e) hc nch ho (I.freeC x c e), hd⟩
 refine ⟨I.ok, I.os, hg, ⟨fun b o e n hb hx => ?_, fun b o e n hb hx => ?_, fun b o e n hx => ?_, fun b o e hx => ?_, fun b xs e => tups b xs (I.base.tups b xs e), fun b o xs e => frzs b o xs (I.base.frzs b o xs e), fun b ps e => ?_⟩, ?_, fun x c e => ?_, ?_, fun x c e => ?_, fun p hp => ?_, hok, I.len⟩
 ·exact keep b o (neL b o e) hb (neC b o e hx) (I.base.keep b o e n hb hx) (I.base.free b o e n hx)
 ·obtain ⟨sl, e1⟩ := I.base.slot b o e n hb hx
  obtain ⟨sl', e2⟩ := slot b _ (neL b o e) hb (neC b o e hx) e1 (I.base.free b o e n hx)
  exact ⟨sl', e2⟩
 ·obtain ⟨o', e1⟩ := I.base.there b o e hx
  exact free b o' (neC b o e hx) e1 (I.base.free b o e n hx)
 ·obtain ⟨o', e1⟩ := I.base.there b o e hx
  exact there b o' (neC b o e hx) e1
 ·obtain ⟨m1, e1⟩ := I.base.tbls b ps e
  obtain ⟨m2, e2⟩ := tbls b _ e1
  exact ⟨m1 ++ m2, by rw [e2, Array.append_assoc]⟩
 ·obtain ⟨m, hn, hl⟩ := I.loc
  refine ⟨m, ns m hn, fun i x v e1 e2 e3 => ?_⟩
  obtain ⟨u, r, l⟩ := hl i x v e1 e2 e3
  refine ⟨u, r, ?_⟩
  rcases l with l | ⟨k, c, e, z⟩
  ·exact .inl l
  ·exact .inr ⟨k, c, e, cellK x c e _ z⟩
 ·obtain ⟨v, z⟩ := I.cell x c e
  exact ⟨v, cellK x c e v z⟩
 ·obtain ⟨m, ⟨o, _, _, ho, _⟩, _⟩ := I.loc
  exact free _ o (fun z => (hch _ z).2.1 rfl) ho I.free
 ·obtain ⟨v, o, ho, hd⟩ := I.cell x c e
  exact free c o (fun z => (hch c z).2.2.1 x c e rfl) ho (I.freeC x c e)
 ·obtain ⟨e, n, ne, nf, d⟩ := I.pin p hp
  have nch : p.1 ∉ ch := fun z => (hch p.1 z).2.2.2 p hp rfl
  exact ⟨keep p.1 p.2 ne nf nch e n, free p.1 p.2 nch e n, ne, nf, d⟩
theorem Inv.un {t' : Nat} (I : Inv X pins σ H s) (u : Un X.fs [] H H' s.heap h') (hok : HOk X.prog X.w H' h') : Inv X pins σ H' { s with heap := h', toks := t' } := by
 obtain ⟨m, ⟨o, es, ep, ho, r⟩, _⟩ := id I.loc
 obtain ⟨sl, hL⟩ := u.any ho I.free (by simp)
 exact I.step (g' := s.gens) (d' := s.drawn) (ch := []) (fun _ z => nomatch z) (fun b o _ hb _ e n => u.keep b o e n hb (by simp)) (fun b o _ hb _ e n => u.slot b o e n hb (by simp)) (fun b o _ e n => u.free b o e n (by simp)) (fun b o _ e => u.there b o e (by simp)) u.tups u.frzs u.tbls (fun m' hm => by
  obtain ⟨o', es', ep', ho', r'⟩ := hm
  rw [ho] at ho'; cases ho'
  exact ⟨_, es', ep', hL, r'⟩) hok I.bare
theorem Inv.call {g' : Array GenState} {t' : Nat} {d' : Drawn} {ch : List Addr} (I : Inv X pins σ H s) (u : Un (frs X.stack) ch H H' s.heap h') (hok : HOk X.prog X.w H' h') (hg : AllBare g')
  (hch : ∀ b ∈ ch, (b ∈ X.ex ∨ X.s₀.heap.objs.size ≤ b) ∧ b ≠ X.env.locals ∧ (∀ x c, X.env.cells.lookup x = some c → c ≠ b) ∧ ∀ p ∈ X.pn ++ pins, p.1 ≠ b) :
  Inv X pins σ H' { s with heap := h', gens := g', drawn := d', toks := t' } := by
 obtain ⟨m, ⟨o, es, ep, ho, r⟩, _⟩ := id I.loc
 obtain ⟨sl, hL⟩ := u.any ho I.free fun z => (hch _ z).2.1 rfl
 exact I.step (ch := ch) hch (fun b o hL hb hc e n => u.keep b o e n (fun z => (List.mem_cons.mp (I.stkSub b z)).elim hL hb) hc) (fun b o _ _ hc e n => u.any e n hc) (fun b o hc e n => u.free b o e n hc) (fun b o hc e => u.there b o e hc) u.tups u.frzs u.tbls (fun m' hm => by
  obtain ⟨o', es', ep', ho', r'⟩ := hm
  rw [ho] at ho'; cases ho'
  exact ⟨_, es', ep', hL, r'⟩) hok hg
theorem Inv.turned {t' : Nat} {it : Addr} (I : Inv X pins σ H s) (k : ∀ b o, b ≠ it → s.heap.get? b = some o → h'.get? b = some o) (hn : H it = none) (hL : it ≠ X.env.locals)
  (h1 : it ∈ X.ex ∨ X.s₀.heap.objs.size ≤ it) (h2 : ∀ x c, X.env.cells.lookup x = some c → c ≠ it) (h3 : ∀ p ∈ X.pn ++ pins, p.1 ≠ it) : Inv X pins σ H { s with heap := h', toks := t' } := by
 have nit : ∀ b u, H b = some u → b ≠ it := fun b u e z => by rw [z, hn] at e; cases e
 refine I.step (g' := s.gens) (d' := s.drawn) (ch := [it]) (fun b hb => ?_) (fun b o _ _ hc e _ => k b o (fun z => hc (by simp [z])) e) (fun b o _ _ hc e _ => ⟨o.slots, k b o (fun z => hc (by simp [z])) e⟩) (fun _ _ _ _ n => n)
  (fun b o hc e => ⟨o, k b o (fun z => hc (by simp [z])) e⟩) (fun _ _ e => e) (fun _ _ _ e => e) (fun b ps e => ⟨#[], by rw [e]; simp⟩) (fun m hm => ?_) (fun b u e => ?_) I.bare
 ·have e : b = it := by simpa using hb
  subst e
  exact ⟨h1, hL, h2, h3⟩
 ·obtain ⟨o, es, ep, ho, r⟩ := hm
  exact ⟨o, es, ep, k _ o (Ne.symm hL) ho, r⟩
 ·refine (I.hok b u e).stay (fun c v hc q => k c v ?_ q) (fun _ q => q) fun _ _ q => q
  rcases hc with z | z
  ·rw [z]; exact nit b u e
  ·exact nit c _ z
theorem Inv.tok (I : Inv X pins σ H s) (t : Nat) : Inv X pins σ H { s with toks := t } := I.un (h' := s.heap) (t' := t) Un.refl I.hok
theorem Inv.kept {t' : Nat} (I : Inv X pins σ H s) (k : ∀ b u, s.heap.get? b = some u → h'.get? b = some u) : Inv X pins σ H { s with heap := h', toks := t' } := I.un (Un.kept k) (I.hok.kept k)
theorem Inv.laid {a : Addr} {o : HO} {t' : Nat} (I : Inv X pins σ H s) (k : ∀ b u, s.heap.get? b = some u → h'.get? b = some u) (hp : s.heap.objs.size ≤ a) (new : ObjOk X.prog X.w (upd H a o) h' a o) :
  Inv X pins σ (upd H a o) { s with heap := h', toks := t' } := I.un (Un.laid k hp (I.hok.fresh hp)) (I.hok.laid k hp new)
theorem Inv.write {x e : Addr} {o : HO} {t' : Nat} (I : Inv X pins σ H s) (mu : Mut (H x)) (he : e = x ∨ H e = some (.own x)) (k : ∀ b u, b ≠ e → s.heap.get? b = some u → h'.get? b = some u) (heo : ∃ u, h'.get? e = some u)
  (new : ObjOk X.prog X.w (upd H x o) h' x o) : Inv X pins σ (upd H x o) { s with heap := h', toks := t' } := I.un (Un.write mu he k heo) (I.hok.write mu he k heo new)
theorem Inv.pins_of {pins' : List (Addr × Obj)} (I : Inv X pins σ H s) (h : ∀ p ∈ pins', s.heap.get? p.1 = some p.2 ∧ H p.1 = none ∧ p.1 ≠ X.env.locals ∧ p.1 ∉ X.fs ∧ ∀ v, p.2.data ≠ .cell v) : Inv X pins' σ H s :=
 ⟨I.ok, I.os, I.bare, I.base, I.loc, I.cell, I.free, I.freeC, fun p hp => (List.mem_append.mp hp).elim (fun z => I.pin p (List.mem_append_left _ z)) (h p), I.hok, I.len⟩
theorem nodup_ix {N : List Str} (hN : N.Nodup) {i j : Nat} {x : Str} (a : N[i]? = some x) (b : N[j]? = some x) : i = j := by
 obtain ⟨h1, e1⟩ := List.getElem?_eq_some_iff.mp a
 obtain ⟨h2, e2⟩ := List.getElem?_eq_some_iff.mp b
 exact (List.getElem_inj hN).mp (e1.trans e2.symm)
theorem store_ok2 {M : Model} {A : Around} {E : Value → Shared → Prop} {i : Nat} {x : Str} {v : V} {u : Value} {Q : Unit → Shared → Prop} (I : Inv X pins σ H s) (hN : X.N.Nodup) (hi : X.N[i]? = some x) (hx : Loc X.env.scope x) (r : RelV v u)
  (h : ∀ s', Inv X pins (σ.set i (some v)) H s' → (∃ a, Heap.SameBut a s.heap s'.heap ∧ (a = X.env.locals ∨ X.env.cells.lookup x = some a)) → Q () s') (hf : X.fn x = true ∨ X.env.scope.names.lookup x = some .local := by first | exact .inl rfl | exact .inr rfl | assumption) : wpAny M A (storeName X.env x u) Q E s := by
 obtain ⟨m, hn, hl⟩ := id I.loc
 have hcls : (X.env.scope.kind == .class || (X.env.scope.kind == .module && X.env.locals != X.env.globals)) = false := by rw [I.ok.kind]; rfl
 have hiσ : i < σ.length := by rw [I.len]; exact (List.getElem?_eq_some_iff.mp hi).1
 have cne := I.cne
 have tracked : ∀ {a : Addr} {h' : Heap}, (∃ o, s.heap.get? a = some o ∧ H a = none) → Heap.SameBut a s.heap h' → HOk X.prog X.w H h' := fun {a h'} ha hs b ob e => by
  obtain ⟨_, _, hfree⟩ := ha
  refine (I.hok b ob e).stay (fun c w' hc q => (hs.2 c ?_).trans q) (fun _ q => q) fun _ _ q => q
  rintro rfl
  rcases hc with rfl | hc
  ·rw [hfree] at e; cases e
  ·rw [hfree] at hc; cases hc
 rcases hx with hk | hk
 ·refine wpAny_storeName_local hk hn (fun h' hn' hs => ?_) hcls
  obtain ⟨oL, _, _, hoL, _⟩ := id hn
  refine h _ ⟨I.ok, I.os, I.bare, ⟨fun b o e n hb hx => ?_, fun b o e n hb hx => ?_, I.base.free, fun b o e hx => ?_, I.base.tups, I.base.frzs, I.base.tbls⟩, ⟨_, hn', fun j y v' e1 e2 e3 => ?_⟩, fun y c e => ?_, I.free, I.freeC, fun p hp => ?_, tracked ⟨oL, hoL, I.free⟩ hs, by simpa using I.len⟩ ⟨_, hs, .inl rfl⟩
  ·exact (hs.2 b (Nat.ne_of_lt (Nat.lt_of_lt_of_le (Heap.lt_size e) I.ok.above))).trans (I.base.keep b o e n hb hx)
  ·obtain ⟨sl, e1⟩ := I.base.slot b o e n hb hx
   exact ⟨sl, (hs.2 b (Nat.ne_of_lt (Nat.lt_of_lt_of_le (Heap.lt_size e) I.ok.above))).trans e1⟩
  ·obtain ⟨o', e1⟩ := I.base.there b o e hx
   exact ⟨o', (hs.2 b (Nat.ne_of_lt (Nat.lt_of_lt_of_le (Heap.lt_size e) I.ok.above))).trans e1⟩
  ·by_cases hj : j = i
   ·subst hj
    rw [hi] at e1; cases e1
    rw [List.getElem?_set_self hiσ] at e2
    cases e2
    exact ⟨u, r, .inl ⟨hk, by simp⟩⟩
   ·rw [List.getElem?_set_ne (Ne.symm hj)] at e2
    obtain ⟨u', r', q⟩ := hl j y v' e1 e2 e3
    refine ⟨u', r', ?_⟩
    rcases q with ⟨k, e⟩ | ⟨k, c, e, z⟩
    ·refine .inl ⟨k, ?_⟩
     have : y ≠ x := fun e => hj (nodup_ix hN e1 (e ▸ hi))
     simp [this, e]
    ·exact .inr ⟨k, c, e, z.sameBut hs (cne y c e)⟩
  ·obtain ⟨w', z⟩ := I.cell y c e
   exact ⟨w', z.sameBut hs (cne y c e)⟩
  ·obtain ⟨e, n, ne, nf, d⟩ := I.pin p hp
   exact ⟨(hs.2 p.1 ne).trans e, n, ne, nf, d⟩
 ·have hfn : X.fn x = true := by
   rcases hf with z | z
   ·exact z
   ·rw [z] at hk; cases hk
  obtain ⟨c, hc⟩ := I.ok.has x (.inl hk)
  obtain ⟨w', z⟩ := I.cell x c hc
  refine wpAny_storeName_cell I.ok.kind hk hc z (fun h' hc' hs => ?_)
  obtain ⟨oc, hoc, hocd⟩ := id z
  refine h { s with heap := h' } ⟨I.ok, I.os, I.bare, ⟨fun b o e n hb hx => ?_, fun b o e n hb hx => ?_, I.base.free, fun b o e hx => ?_, I.base.tups, I.base.frzs, I.base.tbls⟩, ⟨m, hn.sameBut hs (Ne.symm (cne x c hc)), fun j y v' e1 e2 e3 => ?_⟩, fun y c' e => ?_, I.free, I.freeC, fun p hp => ?_, tracked ⟨oc, hoc, I.freeC x c hc⟩ hs, by simpa using I.len⟩ ⟨c, hs, .inr hc⟩
  ·exact (hs.2 b (Nat.ne_of_lt (Nat.lt_of_lt_of_le (Heap.lt_size e) (I.ok.cab x c hfn hc)))).trans (I.base.keep b o e n hb hx)
  ·obtain ⟨sl, e1⟩ := I.base.slot b o e n hb hx
   exact ⟨sl, (hs.2 b (Nat.ne_of_lt (Nat.lt_of_lt_of_le (Heap.lt_size e) (I.ok.cab x c hfn hc)))).trans e1⟩
  ·obtain ⟨o', e1⟩ := I.base.there b o e hx
   exact ⟨o', (hs.2 b (Nat.ne_of_lt (Nat.lt_of_lt_of_le (Heap.lt_size e) (I.ok.cab x c hfn hc)))).trans e1⟩
  ·by_cases hj : j = i
   ·subst hj
    rw [hi] at e1; cases e1
    rw [List.getElem?_set_self hiσ] at e2
    cases e2
    exact ⟨u, r, .inr ⟨.inl hk, c, hc, hc'⟩⟩
   ·rw [List.getElem?_set_ne (Ne.symm hj)] at e2
    obtain ⟨u', r', q⟩ := hl j y v' e1 e2 e3
    refine ⟨u', r', ?_⟩
    rcases q with q | ⟨k, c', e, z'⟩
    ·exact .inl q
    ·refine .inr ⟨k, c', e, z'.sameBut hs ?_⟩
     rintro rfl
     exact hj (nodup_ix hN e1 (I.ok.inj _ _ _ e hc ▸ hi))
  ·by_cases hcc : c' = c
   ·subst hcc; exact ⟨_, hc'⟩
   ·obtain ⟨w2, z2⟩ := I.cell y c' e
    exact ⟨w2, z2.sameBut hs hcc⟩
  ·obtain ⟨e, n, ne, nf, d⟩ := I.pin p hp
   refine ⟨(hs.2 p.1 ?_).trans e, n, ne, nf, d⟩
   intro q
   rw [q, hoc] at e
   have q' : oc = p.2 := Option.some.inj e
   exact d w' (by rw [← q']; exact hocd)
theorem store_ok {M : Model} {A : Around} {E : Value → Shared → Prop} {i : Nat} {x : Str} {v : V} {u : Value} {Q : Unit → Shared → Prop} (I : Inv X pins σ H s) (hN : X.N.Nodup) (hi : X.N[i]? = some x) (hx : Loc X.env.scope x) (r : RelV v u)
  (h : ∀ s', Inv X pins (σ.set i (some v)) H s' → Q () s') (hf : X.fn x = true ∨ X.env.scope.names.lookup x = some .local := by first | exact .inl rfl | exact .inr rfl | assumption) : wpAny M A (storeName X.env x u) Q E s :=
 store_ok2 I hN hi hx r (fun s' I' _ => h s' I') hf
theorem Inv.call' {s' : Shared} {ch : List Addr} (I : Inv X pins σ H s) (ho : s'.os = s.os) (u : Un (frs X.stack) ch H H' s.heap s'.heap) (hok : HOk X.prog X.w H' s'.heap) (hg : AllBare s'.gens)
  (hch : ∀ b ∈ ch, (b ∈ X.ex ∨ X.s₀.heap.objs.size ≤ b) ∧ b ≠ X.env.locals ∧ (∀ x c, X.env.cells.lookup x = some c → c ≠ b) ∧ ∀ p ∈ X.pn ++ pins, p.1 ≠ b) : Inv X pins σ H' s' := by
 obtain ⟨h', g', d', t', o'⟩ := s'
 have e : o' = s.os := ho
 subst e
 exact I.call (g' := g') (t' := t') (d' := d') u hok hg hch
end
abbrev XK := Value → Option Addr → Hp → Prop
abbrev St := List (Option V)
abbrev VK := V → Hp → Prop
abbrev TE := St → Hp → VK → Prop
abbrev TT := St → Hp → (Bool → Hp → Prop) → Prop
abbrev TA := St → Hp → (List V → Hp → Prop) → Prop
structure Ends where
 nx : St → Hp → Prop
 rt : VK
 bk : St → Hp → Prop := fun _ _ => False
 ct : St → Hp → Prop := fun _ _ => False
abbrev TS := Ends → St → Hp → Prop
def EP (X : Cx) (pins : List (Addr × Obj)) (σ : St) (Q : VK) (u : Value) (s' : Shared) : Prop := ∃ v H', Inv X pins σ H' s' ∧ RelV v u ∧ Q v H'
def TP (X : Cx) (pins : List (Addr × Obj)) (σ : St) (Q : Bool → Hp → Prop) (b : Bool) (s' : Shared) : Prop := ∃ H', Inv X pins σ H' s' ∧ Q b H'
def AP (X : Cx) (pins : List (Addr × Obj)) (σ : St) (Q : List V → Hp → Prop) (us : List Value) (s' : Shared) : Prop := ∃ vs H', Inv X pins σ H' s' ∧ Vals vs us ∧ Q vs H'
def SP (X : Cx) (pins : List (Addr × Obj)) (D : Ends) (f : Flow) (s' : Shared) : Prop :=
 match f with
 | .next => ∃ σ' H', Inv X pins σ' H' s' ∧ D.nx σ' H'
 | .brk => ∃ σ' H', Inv X pins σ' H' s' ∧ D.bk σ' H'
 | .cont => ∃ σ' H', Inv X pins σ' H' s' ∧ D.ct σ' H'
 | .ret u => ∃ v σ' H', Inv X pins σ' H' s' ∧ RelV v u ∧ D.rt v H'
def PE (X : Cx) (e : Expr) (t : TE) : Prop :=
 ∀ (pins : List (Addr × Obj)) (s : Shared) (σ : St) (H : Hp) (Q : VK), Inv X pins σ H s → t σ H Q → wpAny (model X.prog X.w) X.A (eval e X.env) (EP X pins σ Q) X.xe s
def PT (X : Cx) (e : Expr) (t : TT) : Prop :=
 ∀ (pins : List (Addr × Obj)) (s : Shared) (σ : St) (H : Hp) (Q : Bool → Hp → Prop), Inv X pins σ H s → t σ H Q → wpAny (model X.prog X.w) X.A (isTrue e X.env (eval e X.env)) (TP X pins σ Q) X.xe s
def PW (X : Cx) (e : Expr) (t : TT) : Prop :=
 ∀ (whole : Sem Value) (pins : List (Addr × Obj)) (s : Shared) (σ : St) (H : Hp) (Q : Bool → Hp → Prop), Inv X pins σ H s → t σ H Q → wpAny (model X.prog X.w) X.A (isTrue e X.env whole) (TP X pins σ Q) X.xe s
theorem PW.pt {X : Cx} {e : Expr} {t : TT} (h : PW X e t) : PT X e t := h _
def PA (X : Cx) (es : List Expr) (t : TA) : Prop :=
 ∀ (pos : Pos) (pins : List (Addr × Obj)) (s : Shared) (σ : St) (H : Hp) (Q : List V → Hp → Prop), Inv X pins σ H s → t σ H Q → wpAny (model X.prog X.w) X.A (spliced (backTo pos (starEach es X.env))) (AP X pins σ Q) X.xe s
def PS (X : Cx) (st : Stmt) (t : TS) : Prop :=
 ∀ (pins : List (Addr × Obj)) (s : Shared) (σ : St) (H : Hp) (D : Ends), Inv X pins σ H s → t D σ H → wpAny (model X.prog X.w) X.A (exec st X.env) (SP X pins D) X.xe s
def PSs (X : Cx) (st : List Stmt) (t : TS) : Prop :=
 ∀ (pins : List (Addr × Obj)) (s : Shared) (σ : St) (H : Hp) (D : Ends), Inv X pins σ H s → t D σ H → wpAny (model X.prog X.w) X.A (execs st X.env) (SP X pins D) X.xe s
theorem thn {α : Type} {t : Sem α} {Q Q' : α → Shared → Prop} {M : Model} {A : Around} {E : Value → Shared → Prop} {s : Shared} (h : wpAny M A t Q E s) (hQ : ∀ a s, Q a s → Q' a s) : wpAny M A t Q' E s := wpAny_mono h hQ fun _ _ x => x
end L2
namespace L2
open PySem PySem.Spec PyProof.Rows
section
variable {X : Cx}
theorem bin {a b : Expr} {ta tb : TE} (ha : PE X a ta) (hb : PE X b tb) {pins : List (Addr × Obj)} {s : Shared} {σ : St} {H : Hp} {R : V → V → Hp → Prop} (I : Inv X pins σ H s) (h : ta σ H fun x H1 => tb σ H1 fun y H2 => R x y H2)
  {α : Type} {Q : α → Shared → Prop} {f : Value → Value → Sem α}
  (hf : ∀ v u s2 x y H2, Inv X pins σ H2 s2 → RelV x v → RelV y u → R x y H2 → wpAny (model X.prog X.w) X.A (f v u) Q X.xe s2) :
  wpAny (model X.prog X.w) X.A (eval a X.env) (fun v s₁ => wpAny (model X.prog X.w) X.A (eval b X.env) (fun u s₂ => wpAny (model X.prog X.w) X.A (f v u) Q X.xe s₂) X.xe s₁) X.xe s := by
 refine thn (ha pins s σ H _ I h) fun v s1 ⟨x, H1, I1, r1, q1⟩ => ?_
 refine thn (hb pins s1 σ H1 _ I1 q1) fun u s2 ⟨y, H2, I2, r2, q2⟩ => ?_
 exact hf v u s2 x y H2 I2 r1 r2 q2
def tVar (i : Nat) : TE := fun σ H Q => ∃ v, σ[i]? = some (some v) ∧ Q v H
def tC (v : V) : TE := fun _ H Q => Q v H
theorem pe_var {i : Nat} {x : Str} {pos : Pos} (hN : X.N[i]? = some x) (hv : Vis X.env.scope x) (hd : (x == ("__debug__" : Str)) = false := by decide) (hcd : (x == ("__classdict__" : Str)) = false := by decide) : PE X (.Name x pos) (tVar i) := by
 intro pins s σ H Q I h
 obtain ⟨v, e, h⟩ := h
 obtain ⟨m, hn, hl⟩ := I.loc
 obtain ⟨u, r, l⟩ := hl i x v hN e hv
 have fin : EP X pins σ Q u s := ⟨v, H, I, r, h⟩
 rcases l with ⟨hk, hm⟩ | ⟨hk, c, hc, hcell⟩
 ·exact wpAny_Name (wpAny_loadName_local I.ok.kind hk hn hm fin) hd
 ·rcases hk with hk | hk
  ·exact wpAny_Name (wpAny_loadName_cell I.ok.kind hk hc hcell fin) hd
  ·exact wpAny_Name (wpAny_loadName_free I.ok.kind hk hc hcell fin hcd) hd
theorem pe_int {i j pos} : PE X (.Constant (.int i) j pos) (tC (.int i)) := fun _ _ _ H _ I h => wpAny_Constant_int ⟨.int i, H, I.tok _, ⟨_, rfl⟩, h⟩
theorem pe_bl {b j pos} : PE X (.Constant (.bool b) j pos) (tC (.bl b)) := fun _ _ _ H _ I h => Constant_bool ⟨.bl b, H, I, rfl, h⟩
theorem pe_non {j pos} : PE X (.Constant .none j pos) (tC .non) := fun _ _ _ H _ I h => Constant_none ⟨.non, H, I, rfl, h⟩
theorem pe_str {x j pos} : PE X (.Constant (.str x) j pos) (tC (.str x)) := fun _ _ _ H _ I h => Calls.Constant_str ⟨.str x, H, I.tok _, ⟨_, rfl⟩, h⟩
def Gl (X : Cx) (x : Str) : Prop := X.env.kindOf x = some .globalImplicit
theorem ld_glob {E : Value → Shared → Prop} {pins : List (Addr × Obj)} {s : Shared} {σ : St} {H : Hp} {x : Str} {u : Value} {pos : Pos} {Q : Value → Shared → Prop} (I : Inv X pins σ H s) (hg : Gl X x) (hm : X.mg x = some u) (h : Q u s)
  (hd : (x == ("__debug__" : Str)) = false := by decide) : wpAny (model X.prog X.w) X.A (eval (.Name x pos) X.env) Q E s :=
 Calls.Name_function_global I.ok.kind hg (Calls.loadGlobal_global (by rw [I.ok.glob]; exact I.mod.glob.keeps I.bk) hm h) hd
theorem ld_blt {E : Value → Shared → Prop} {pins : List (Addr × Obj)} {s : Shared} {σ : St} {H : Hp} {x : Str} {u : Value} {pos : Pos} {Q : Value → Shared → Prop} (I : Inv X pins σ H s) (hg : Gl X x) (hm : X.mg x = none) (hv : bootBuiltins x = some u) (h : Q u s)
  (hn : x ≠ "__name__" := by decide) (hd : (x == ("__debug__" : Str)) = false := by decide) : wpAny (model X.prog X.w) X.A (eval (.Name x pos) X.env) Q E s := by
 obtain ⟨mb, h1, h2⟩ := I.mod.blt
 exact Calls.Name_function_global I.ok.kind hg (Calls.loadGlobal_builtin (by rw [I.ok.glob]; exact I.mod.glob.keeps I.bk) hm (by rw [I.ok.blt]; exact h1.keeps I.bk) ((h2 x hn).trans hv) h) hd
theorem pe_glob {x : Str} {v : V} {u : Value} {pos : Pos} (hg : Gl X x) (hm : X.mg x = some u) (r : RelV v u) (hd : (x == ("__debug__" : Str)) = false := by decide) : PE X (.Name x pos) (tC v) :=
 fun _ _ _ H _ I h => ld_glob I hg hm ⟨v, H, I, r, h⟩ hd
theorem pe_bltn {x : Str} {v : V} {u : Value} {pos : Pos} (hg : Gl X x) (hm : X.mg x = none) (hv : bootBuiltins x = some u) (r : RelV v u) (hn : x ≠ "__name__" := by decide) (hd : (x == ("__debug__" : Str)) = false := by decide) : PE X (.Name x pos) (tC v) :=
 fun _ _ _ H _ I h => ld_blt I hg hm hv ⟨v, H, I, r, h⟩ hn hd
variable {a b : Expr} {ta tb : TE} {pos : Pos}
def PC (X : Cx) (op : CmpOp) (a b : Expr) (t : TE) : Prop :=
 ∀ (pins : List (Addr × Obj)) (s : Shared) (σ : St) (H : Hp) (Q : VK), Inv X pins σ H s → t σ H Q →
  wpAny (model X.prog X.w) X.A (eval a X.env) (fun v s₁ => wpAny (model X.prog X.w) X.A (eval b X.env) (fun u s₂ => wpAny (model X.prog X.w) X.A (compareOp op v u) (EP X pins σ Q) X.xe s₂) X.xe s₁) X.xe s
def tB (t : TE) : TT := fun σ H Q => t σ H fun x H1 => ∃ c, x = .bl c ∧ Q c H1
theorem pt_cmp {op : CmpOp} {t : TE} (h : PC X op a b t) (h1 : behindInMarks op b = false := by first | exact nobehind _ (by decide) (by decide) | rfl) : PT X (.Compare a [op] [b] pos) (tB t) := by
 intro pins s σ H Q I hw
 refine wpAny_isTrue_Compare1 (thn (h pins s σ H _ I hw) fun v s1 h1 => thn h1 fun u s2 h2 => thn h2 fun c s3 ⟨x, H1, I1, r1, q1⟩ => ?_) h1
 obtain ⟨d, rfl, q⟩ := q1
 cases r1
 exact wpAny_truthy_bool ⟨H1, I1, q⟩
theorem pt_val {e : Expr} {t : TE} (h : PE X e t) (he : ∀ whole, isTrue e X.env whole = (do let v ← whole; standAt e.pos; holding [v] (truthy v)) := by intro _; rfl) : PT X e (tB t) := by
 intro pins s σ H Q I hw
 refine isTrue_plain (thn (h pins s σ H _ I hw) fun v s1 ⟨x, H1, I1, r1, q1⟩ => ?_) (he _)
 obtain ⟨d, rfl, q⟩ := q1
 cases r1
 exact wpAny_truthy_bool ⟨H1, I1, q⟩
variable {tA tB' : TT} {rest : List Expr}
def tOr (t u : TT) : TT := fun σ H Q => t σ H fun c H1 => if c = true then Q true H1 else u σ H1 Q
def tNot (t : TT) : TT := fun σ H Q => t σ H fun c H1 => Q (!c) H1
theorem pw_or1 (ha : PT X a tA) : PW X (.BoolOp .Or [a] pos) tA := by
 intro wh pins s σ H Q I h
 refine isTrue_or (thn (ha pins s σ H Q I h) fun c s1 e => ?_)
 cases c with
 | false => exact isTrue_or_nil e
 | true => exact e
theorem pw_or (ha : PT X a tA) (hb : PW X (.BoolOp .Or (b :: rest) pos) tB') : PW X (.BoolOp .Or (a :: b :: rest) pos) (tOr tA tB') := by
 intro wh pins s σ H Q I h
 refine isTrue_or (thn (ha pins s σ H _ I h) fun c s1 ⟨H1, I1, q1⟩ => ?_)
 cases c with
 | true => exact ⟨H1, I1, q1⟩
 | false => exact hb wh pins s1 σ H1 Q I1 q1
theorem pt_not (ha : PT X a tA) : PT X (.UnaryOp .Not a pos) (tNot tA) := by
 intro pins s σ H Q I h
 exact isTrue_not (ha pins s σ H (fun c H1 => Q (!c) H1) I h)
def tAndV (ta tb : TE) : TE := fun σ H Q => ta σ H fun x H1 => ∃ c, x = .bl c ∧ if c = true then tb σ H1 Q else Q (.bl false) H1
def tNotV (ta : TE) : TE := fun σ H Q => ta σ H fun x H1 => ∃ c, x = .bl c ∧ Q (.bl (!c)) H1
theorem pe_one {op} {t : TE} (h : PE X a t) : PE X (.BoolOp op [a] pos) t := fun pins s σ H Q I hw => BoolOp_one (h pins s σ H Q I hw)
theorem pe_and (ha : PE X a ta) (hb : PE X (.BoolOp .And (b :: rest) pos) tb) : PE X (.BoolOp .And (a :: b :: rest) pos) (tAndV ta tb) := by
 intro pins s σ H Q I h
 refine BoolOp_and (thn (ha pins s σ H _ I h) fun v s1 ⟨x, H1, I1, r1, q1⟩ => ?_)
 obtain ⟨c, rfl, q1⟩ := q1
 cases r1
 refine wpAny_truthy_bool ?_
 cases c with
 | true => exact hb pins s1 σ H1 Q I1 q1
 | false => exact ⟨.bl false, H1, I1, rfl, q1⟩
theorem pe_not (ha : PE X a ta) : PE X (.UnaryOp .Not a pos) (tNotV ta) := by
 intro pins s σ H Q I h
 refine UnaryOp_ (thn (ha pins s σ H _ I h) fun v s1 ⟨x, H1, I1, r1, q1⟩ => ?_)
 obtain ⟨c, rfl, q1⟩ := q1
 cases r1
 exact not_of (wpAny_truthy_bool ⟨.bl (!c), H1, I1, rfl, q1⟩)
def tIf (t : TT) (ta tb : TE) : TE := fun σ H Q => t σ H fun c H1 => if c = true then ta σ H1 Q else tb σ H1 Q
theorem pe_ifExp {c : Expr} (hc : PT X c tA) (ha : PE X a ta) (hb : PE X b tb) : PE X (.IfExp c a b pos) (tIf tA ta tb) := by
 intro pins s σ H Q I h
 refine wpAny_IfExp (thn (hc pins s σ H _ I h) fun d s1 ⟨H1, I1, q1⟩ => ?_)
 cases d with
 | true => exact ha pins s1 σ H1 Q I1 q1
 | false => exact hb pins s1 σ H1 Q I1 q1
end
end L2
namespace L2
open PySem PySem.Spec PyProof.Rows
def SqL (K : PySem.W.Frag) (H : Hp) (a : Addr) (xs : List V) : Prop :=
 Rd H a (.lst xs) ∨
  ∃ (o : Obj) (its : Array Value) (n : Nat), K.lookup a = some o ∧ o.cls = .type "list" ∧ o.dict = none ∧ o.data = .seq its n ∧ its.size ≤ sizeLine ∧ Vals xs its.toList
def SqT (K : PySem.W.Frag) (H : Hp) (a : Addr) (xs : List V) : Prop :=
 Rd H a (.tup xs) ∨
  ∃ (o : Obj) (its : Array Value) (n : Nat), K.lookup a = some o ∧ o.cls = .type "tuple" ∧ o.data = .seq its n ∧ its.size ≤ sizeLine ∧ Vals xs its.toList
def absV : Value → Option V
 | .none => some .non
 | .bool b => some (.bl b)
 | .int i _ => some (.int i)
 | .str x _ => some (.str x)
 | .bytes b _ => some (.byt b)
 | .float b _ => some (.flt b)
 | .ref a => some (.ref a)
 | .type n => some (.ty n)
 | _ => none
theorem RelV.abs {x : V} {u : Value} (r : RelV x u) : absV u = some x := by
 cases x with
 | non => cases r; rfl
 | bl _ => cases r; rfl
 | int _ => obtain ⟨t, rfl⟩ := r; rfl
 | str _ => obtain ⟨t, rfl⟩ := r; rfl
 | byt _ => obtain ⟨t, rfl⟩ := r; rfl
 | flt _ => obtain ⟨t, rfl⟩ := r; rfl
 | ref _ => cases r; rfl
 | ty _ => cases r; rfl
theorem RelV.inj {x y : V} {u : Value} (r : RelV x u) (q : RelV y u) : x = y := Option.some.inj (r.abs.symm.trans q.abs)
theorem Vals.inj : ∀ {xs ys : List V} {us : List Value}, Vals xs us → Vals ys us → xs = ys
 | _, _, _, .nil, .nil => rfl
 | _, _, _, .cons r t, .cons r' t' => by rw [r.inj r', Vals.inj t t']
section
variable {X : Cx} {pins : List (Addr × Obj)} {σ : St} {H : Hp} {s : Shared} {a : Addr} {xs ys : List V}
theorem SqL.of {K : PySem.W.Frag} (h : H a = some (.lst xs)) : SqL K H a xs := .inl (.inl h)
theorem SqT.of {K : PySem.W.Frag} (h : H a = some (.tup xs)) : SqT K H a xs := .inl (.inl h)
theorem Inv.list (I : Inv X pins σ H s) (h : SqL X.K H a xs) : ∃ its : List Value, Vals xs its ∧ PlainL s.heap a its.toArray ∧ xs.length ≤ sizeLine := by
 rcases h with h | ⟨o, its, n, hk, hc, hd, hs, hz, r⟩
 ·obtain ⟨z, its, n, r, e⟩ := h.ok I.hok
  exact ⟨its, r, ⟨_, n, e, rfl, rfl, rfl⟩, z⟩
 ·refine ⟨its.toList, r, ⟨o, n, I.kIn a o hk, hc, hd, by simpa using hs⟩, ?_⟩
  have e := r.length
  simp only [Array.length_toList] at e
  omega
theorem Inv.tuple (I : Inv X pins σ H s) (h : SqT X.K H a xs) : ∃ its : List Value, Vals xs its ∧ IsTup s.heap a its.toArray ∧ xs.length ≤ sizeLine := by
 rcases h with h | ⟨o, its, n, hk, hc, hs, hz, r⟩
 ·obtain ⟨z, its, r, p⟩ := h.ok I.hok
  exact ⟨its, r, p, z⟩
 ·refine ⟨its.toList, r, ⟨o, I.kIn a o hk, hc, n, by simpa using hs⟩, ?_⟩
  have e := r.length
  simp only [Array.length_toList] at e
  omega
theorem Inv.list_inj (I : Inv X pins σ H s) (h : SqL X.K H a xs) (h' : SqL X.K H a ys) : xs = ys := by
 obtain ⟨its, r, ⟨o, n, e, _, _, d⟩, _⟩ := I.list h
 obtain ⟨its', r', ⟨o', n', e', _, _, d'⟩, _⟩ := I.list h'
 rw [e] at e'; cases e'
 rw [d] at d'
 injection d' with d1 _
 have : its = its' := by simpa using congrArg Array.toList d1
 subst this
 exact r.inj r'
theorem Inv.tuple_inj (I : Inv X pins σ H s) (h : SqT X.K H a xs) (h' : SqT X.K H a ys) : xs = ys := by
 obtain ⟨its, r, ⟨o, e, _, n, d⟩, _⟩ := I.tuple h
 obtain ⟨its', r', ⟨o', e', _, n', d'⟩, _⟩ := I.tuple h'
 rw [e] at e'; cases e'
 rw [d] at d'
 injection d' with d1 _
 have : its = its' := by simpa using congrArg Array.toList d1
 subst this
 exact r.inj r'
end
abbrev Cx.wish (X : Cx) (E : Value → Shared → Prop) : Cx := { X with xe := E }
abbrev Cx.nox (X : Cx) : Cx := X.wish fun _ _ => False
theorem Cx.Ok.wish {X : Cx} (ok : X.Ok) (E : Value → Shared → Prop) : (X.wish E).Ok :=
 ⟨ok.mod, ok.kind, ok.glob, ok.blt, ok.above, ok.inj, ok.has, ok.cab, ok.hd, ok.frames, ok.stk, ok.exf, ok.bs, ok.bsz, ok.noex, ok.exfs, ok.funs, ok.frf⟩
theorem Cx.Ok.unwish {X : Cx} {E : Value → Shared → Prop} (ok : (X.wish E).Ok) : X.Ok :=
 ⟨ok.mod, ok.kind, ok.glob, ok.blt, ok.above, ok.inj, ok.has, ok.cab, ok.hd, ok.frames, ok.stk, ok.exf, ok.bs, ok.bsz, ok.noex, ok.exfs, ok.funs, ok.frf⟩
section
variable {X : Cx} {pins : List (Addr × Obj)} {σ : St} {H : Hp} {s : Shared} {E : Value → Shared → Prop}
theorem Inv.wish (I : Inv X pins σ H s) (E : Value → Shared → Prop) : Inv (X.wish E) pins σ H s := ⟨I.ok.wish E, I.os, I.bare, I.base, I.loc, I.cell, I.free, I.freeC, I.pin, I.hok, I.len⟩
theorem Inv.unwish (I : Inv (X.wish E) pins σ H s) : Inv X pins σ H s := ⟨I.ok.unwish, I.os, I.bare, I.base, I.loc, I.cell, I.free, I.freeC, I.pin, I.hok, I.len⟩
theorem SP.unwish {D : Ends} {f : Flow} {s' : Shared} (h : SP (X.wish E) pins D f s') : SP X pins D f s' := by
 cases f with
 | next => obtain ⟨σ', H', I, q⟩ := h; exact ⟨σ', H', I.unwish, q⟩
 | brk => obtain ⟨σ', H', I, q⟩ := h; exact ⟨σ', H', I.unwish, q⟩
 | cont => obtain ⟨σ', H', I, q⟩ := h; exact ⟨σ', H', I.unwish, q⟩
 | ret u => obtain ⟨v, σ', H', I, r, q⟩ := h; exact ⟨v, σ', H', I.unwish, r, q⟩
theorem PSs.nox {st : List Stmt} {t : TS} (h : PSs X.nox st t) : PSs X st t := fun pins s σ H D I hw =>
 wpAny_mono (h pins s σ H D (I.wish _) hw) (fun _ _ q => q.unwish) fun _ _ z => False.elim z
end
section
variable {X : Cx} {st : Stmt} {rest : List Stmt} {t u : TS} {e : Expr} {te : TE} {pos : Pos}
def tNext : TS := fun D σ H => D.nx σ H
def tSeq (t u : TS) : TS := fun D σ H => t { D with nx := u D } σ H
theorem pss_nil : PSs X [] tNext := fun _ _ σ H _ I h => wpAny_execs_nil ⟨σ, H, I, h⟩
theorem pss_cons (h1 : PS X st t) (h2 : PSs X rest u) : PSs X (st :: rest) (tSeq t u) := by
 intro pins s σ H D I h
 refine wpAny_execs_cons (thn (h1 pins s σ H { D with nx := u D } I h) fun f s1 q => ?_)
 cases f with
 | next =>
  obtain ⟨σ', H', I', q⟩ := q
  exact h2 pins s1 σ' H' D I' q
 | ret v => exact q
 | brk => exact q
 | cont => exact q
theorem pss_one (h1 : PS X st t) : PSs X [st] t := by
 intro pins s σ H D I h
 refine wpAny_execs_cons (thn (h1 pins s σ H D I h) fun f s1 q => ?_)
 cases f with
 | next => exact wpAny_execs_nil q
 | ret v => exact q
 | brk => exact q
 | cont => exact q
theorem Inv.quiet {pins : List (Addr × Obj)} {σ : St} {H : Hp} {s : Shared} (I : Inv X pins σ H s) : interactive X.env = false := by simp [interactive, I.ok.kind]
def tDrop (te : TE) : TS := fun D σ H => te σ H fun _ H1 => D.nx σ H1
theorem ps_expr (he : PE X e te) (hs : swapsWith e none pos.line X.env = pure false := by rfl) : PS X (.Expr e pos) (tDrop te) := by
 intro pins s σ H D I h
 exact wpAny_Expr_any (thn (he pins s σ H _ I h) fun v s1 ⟨x, H1, I1, r1, q1⟩ => ⟨σ, H1, I1, q1⟩) I.quiet hs
def tRet (te : TE) : TS := fun D σ H => te σ H D.rt
theorem ps_ret (he : PE X e te) : PS X (.Return (some e) pos) (tRet te) := by
 intro pins s σ H D I h
 exact wpAny_Return_some (thn (he pins s σ H _ I h) fun v s1 ⟨x, H1, I1, r1, q1⟩ => ⟨x, σ, H1, I1, r1, q1⟩)
def tIfS (c : TT) (t u : TS) : TS := fun D σ H => c σ H fun b H1 => if b = true then t D σ H1 else u D σ H1
theorem ps_if {c : Expr} {a b : List Stmt} {tc : TT} (hc : PT X c tc) (ha : PSs X a t) (hb : PSs X b u) : PS X (.If c a b pos) (tIfS tc t u) := by
 intro pins s σ H D I h
 refine wpAny_If (thn (hc pins s σ H _ I h) fun d s1 ⟨H1, I1, q1⟩ => ?_)
 cases d with
 | true => exact ha pins s1 σ H1 D I1 q1
 | false => exact hb pins s1 σ H1 D I1 q1
end
abbrev TG := V → St → Hp → (St → Hp → Prop) → Prop
abbrev TGs := List V → St → Hp → (St → Hp → Prop) → Prop
def PG (X : Cx) (target : Expr) (t : TG) : Prop :=
 ∀ (pins : List (Addr × Obj)) (s : Shared) (σ : St) (H : Hp) (v : V) (u : Value) (Q : St → Hp → Prop), Inv X pins σ H s → RelV v u → t v σ H Q →
  wpAny (model X.prog X.w) X.A (assign target X.env u) (fun _ s' => ∃ σ' H', Inv X pins σ' H' s' ∧ Q σ' H') X.xe s
def PGs (X : Cx) (ts : List Expr) (t : TGs) : Prop :=
 ∀ (pins : List (Addr × Obj)) (s : Shared) (σ : St) (H : Hp) (vs : List V) (us : List Value) (Q : St → Hp → Prop), Inv X pins σ H s → Vals vs us → t vs σ H Q →
  wpAny (model X.prog X.w) X.A (assignInOrder ((assignEach ts X.env).map (·.2)) us) (fun _ s' => ∃ σ' H', Inv X pins σ' H' s' ∧ Q σ' H') X.xe s
abbrev TSet := V → V → V → Hp → (Hp → Prop) → Prop
def PSet (X : Cx) (t : TSet) : Prop :=
 ∀ (pins : List (Addr × Obj)) (s : Shared) (σ : St) (H : Hp) (o i v : V) (ov iv u : Value) (Q : Hp → Prop), Inv X pins σ H s → RelV o ov → RelV i iv → RelV v u → t o i v H Q →
  wpAny (model X.prog X.w) X.A (setItem ov iv u) (fun _ s' => ∃ H', Inv X pins σ H' s' ∧ Q H') X.xe s
section
variable {X : Cx} {pos : Pos}
def gName (i : Nat) : TG := fun v σ H Q => Q (σ.set i (some v)) H
theorem pg_name {i : Nat} {x : Str} (hN : X.N.Nodup) (hi : X.N[i]? = some x) (hx : Loc X.env.scope x) (hf : X.fn x = true ∨ X.env.scope.names.lookup x = some .local := by first | exact .inl rfl | exact .inr rfl | assumption) : PG X (.Name x pos) (gName i) := by
 intro pins s σ H v u Q I r h
 exact wpAny_assign_Name (store_ok I hN hi hx r (fun s' I' => ⟨_, H, I', h⟩) hf)
def gNil : TGs := fun vs σ H Q => vs = [] ∧ Q σ H
def gCons (t : TG) (u : TGs) : TGs := fun vs σ H Q => ∃ v r, vs = v :: r ∧ t v σ H fun σ' H' => u r σ' H' Q
theorem pgs_nil : PGs X [] gNil := by
 intro pins s σ H vs us Q I r h
 obtain ⟨e, h⟩ := h
 subst e
 cases r
 exact assignInOrder_nil ⟨σ, H, I, h⟩
theorem pgs_cons {e : Expr} {es : List Expr} {t : TG} {u : TGs} (h1 : PG X e t) (h2 : PGs X es u)
  (hs : (assignEach (e :: es) X.env).map (·.2) = assign e X.env :: (assignEach es X.env).map (·.2) := by rfl) : PGs X (e :: es) (gCons t u) := by
 intro pins s σ H vs us Q I r h
 obtain ⟨v, vr, e1, h⟩ := h
 subst e1
 cases r with
 | cons r rr =>
  rw [hs]
  refine assignInOrder_cons (thn (h1 pins s σ H _ _ _ I r h) fun _ s1 ⟨σ1, H1, I1, q1⟩ => ?_)
  exact h2 pins s1 σ1 H1 _ _ Q I1 rr q1
def gTup (K : PySem.W.Frag) (n : Nat) (t : TGs) : TG := fun v σ H Q => ∃ a xs, v = .ref a ∧ SqT K H a xs ∧ xs.length = n ∧ t xs σ H Q
theorem pg_tup {es : List Expr} {k : Nat} {t : TGs} {n : Nat} (hc : X.calm = true) (h : PGs X es t)
  (hn : (assignEach es X.env).length = n := by rfl) (hst : (assignEach es X.env).findIdx? (·.1) = none := by rfl) : PG X (.Tuple es k pos) (gTup X.K n t) := by
 intro pins s σ H v u Q I r hw
 obtain ⟨a, xs, e1, hq, hl, hw⟩ := hw
 subst e1
 cases r
 obtain ⟨its, rv, ht, hz⟩ := I.tuple hq
 refine assign_Tuple_tuple (I.ok.hd hc) ht (by simp [hn, ← hl, rv.length]) hst fun h' hx => ?_
 have I1 : Inv X pins σ H { s with heap := h' } := I.kept (t' := s.toks) fun b o e => hx b o (Nat.ne_of_lt (Heap.lt_size e)) e
 exact h pins _ σ H xs _ Q I1 (by simpa using rv) hw
def gSub (to ti : TE) (t : TSet) : TG := fun v σ H Q => to σ H fun o H1 => ti σ H1 fun i H2 => t o i v H2 fun H3 => Q σ H3
theorem pg_sub {o i : Expr} {to ti : TE} {t : TSet} (ho : PE X o to) (hi : PE X i ti) (hs : PSet X t)
  (ha : ∀ v, assign (.Subscript o i pos) X.env v = (do
   let ov ← holding [v] (eval o X.env)
   let iv ← holding [v, ov] (eval i X.env)
   standAt pos
   holding [v, ov, iv] (setItem ov iv v)
   release [v, ov, iv] []) := by intro _; rfl) : PG X (.Subscript o i pos) (gSub to ti t) := by
 intro pins s σ H v u Q I r h
 rw [ha]
 refine wpAny_bind (wpAny_holding (thn (ho pins s σ H _ I h) fun ov s1 ⟨x, H1, I1, r1, q1⟩ => ?_))
 refine wpAny_bind (wpAny_holding (thn (hi pins s1 σ H1 _ I1 q1) fun iv s2 ⟨y, H2, I2, r2, q2⟩ => ?_))
 refine wpAny_bind (wpAny_standAt (wpAny_bind (wpAny_holding (thn (hs pins s2 σ H2 x y v ov iv u _ I2 r1 r2 r q2) fun _ s3 ⟨H3, I3, q3⟩ => ?_))))
 exact wpAny_release ⟨σ, H3, I3, q3⟩
def tAsg (te : TE) (g : TG) : TS := fun D σ H => te σ H fun x H1 => g x σ H1 D.nx
theorem ps_asg {tg e : Expr} {te : TE} {g : TG} (he : PE X e te) (hg : PG X tg g) (hs : swapsWithSole [tg] e pos.line X.env = pure false := by rfl) (hw : swappedStores [tg] e X.env = pure none := by rfl)
  (h1 : (assignEach [tg] X.env).map (·.2) = [assign tg X.env] := by rfl) : PS X (.Assign [tg] e pos) (tAsg te g) := by
 intro pins s σ H D I h
 refine wpAny_Assign_stores (thn (he pins s σ H _ I h) fun v s1 ⟨x, H1, I1, r1, q1⟩ => ?_) hs hw
 rw [h1]
 exact thn (hg pins s1 σ H1 x v _ I1 r1 q1) fun _ s2 q => q
theorem ps_set {i : Nat} {x : Str} {e : Expr} {te : TE} {pos' : Pos} (hN : X.N.Nodup) (hi : X.N[i]? = some x) (hx : Loc X.env.scope x) (he : PE X e te) (hs : swapsWith e (some (.Name x pos')) pos.line X.env = pure false := by rfl) (hf : X.fn x = true ∨ X.env.scope.names.lookup x = some .local := by first | exact .inl rfl | exact .inr rfl | assumption) :
  PS X (.Assign [.Name x pos'] e pos) (tAsg te (gName i)) := by
 intro pins s σ H D I h
 refine wpAny_Assign_Name (thn (he pins s σ H _ I h) fun v s1 ⟨y, H1, I1, r1, q1⟩ => ?_) hs
 exact store_ok I1 hN hi hx r1 (fun s2 I2 => ⟨_, H1, I2, q1⟩) hf
end
section
variable {X : Cx} {pos : Pos}
end
structure It where
 go : Nat → Hp → Prop
 yld : Nat → Hp → V → Hp → Prop
 stop : Nat → Hp → Prop
def FpOk (X : Cx) (pins : List (Addr × Obj)) (H : Hp) (b : Addr) : Prop :=
 H b = none ∧ b ≠ X.env.locals ∧ b ∉ X.fs ∧ (b ∈ X.ex ∨ X.s₀.heap.objs.size ≤ b) ∧ (∀ x c, X.env.cells.lookup x = some c → c ≠ b) ∧ ∀ p ∈ X.pn ++ pins, p.1 ≠ b
theorem Inv.fpOk {X : Cx} {pins : List (Addr × Obj)} {σ : St} {H H' : Hp} {s : Shared} {b : Addr} (I : Inv X pins σ H s) (hb : s.heap.objs.size ≤ b) (hn : H' b = none) : FpOk X pins H' b := by
 refine ⟨hn, Nat.ne_of_gt (Nat.lt_of_lt_of_le I.lt hb), I.nofs hb, .inr (Nat.le_trans I.sz hb), fun x c e z => ?_, fun p hp z => ?_⟩
 ·obtain ⟨v, q⟩ := I.cell x c e
  exact absurd (Nat.lt_of_lt_of_le q.lt (by rw [z]; exact hb)) (Nat.lt_irrefl _)
 ·exact absurd (Nat.lt_of_lt_of_le (Heap.lt_size (I.pin p hp).1) (by rw [z]; exact hb)) (Nat.lt_irrefl _)
structure Turn (P : Program) (w : World) (K : PySem.W.Frag) (tg : Expr) (J : It) (fp : List Addr) (it : Addr) (tn : Nat → Heap → Prop) : Prop where
 mem : it ∈ fp
 obj : ∀ i h, tn i h → ∀ b ∈ fp, ∃ o, h.get? b = some o ∧ ∀ v, o.data ≠ .cell v
 keep : ∀ i h h', tn i h → (∀ b ∈ fp, ∀ o, h.get? b = some o → h'.get? b = some o) → tn i h'
 item : ∀ (X : Cx), X.prog = P → X.w = w → X.K = K → X.calm = true → ∀ (i : Nat) (pins : List (Addr × Obj)) (s : Shared) (σ : St) (H : Hp) (E : Value → Shared → Prop), Inv X pins σ H s → (∀ b ∈ fp, FpOk X pins H b) → tn i s.heap → J.go i H →
  wpAny (model P w) X.A (pyNext (.ref it)) (fun r s1 => ∃ u, r = some u ∧
   wpAny (model P w) X.A (letOwnedTupleGo tg (.ref it) u) (fun _ s2 => ∃ x H', Inv X pins σ H' s2 ∧ RelV x u ∧ J.yld i H x H' ∧ tn (i + 1) s2.heap ∧ ∀ b ∈ fp, H' b = none) E s1) E s
 done : ∀ (X : Cx), X.prog = P → X.w = w → X.K = K → X.calm = true → ∀ (i : Nat) (pins : List (Addr × Obj)) (s : Shared) (σ : St) (H : Hp) (E : Value → Shared → Prop), Inv X pins σ H s → (∀ b ∈ fp, FpOk X pins H b) → tn i s.heap → J.stop i H →
  wpAny (model P w) X.A (pyNext (.ref it)) (fun r s1 => r = none ∧ Inv X pins σ H s1) E s
 self : ∀ (A : Around) (i : Nat) (s : Shared) (Q : Value → Shared → Prop) (E : Value → Shared → Prop), tn i s.heap → Q (.ref it) s → wpAny (model P w) A (pyIter (.ref it)) Q E s
abbrev TI := St → Hp → (It → Hp → Prop) → Prop
def PIE (X : Cx) (pins : List (Addr × Obj)) (σ : St) (tg : Expr) (R : It → Hp → Prop) (itv : Value) (s2 : Shared) : Prop :=
 ∃ (it : Addr) (fp : List Addr) (tn : Nat → Heap → Prop) (J : It) (H' : Hp), itv = .ref it ∧ Inv X pins σ H' s2 ∧ Turn X.prog X.w X.K tg J fp it tn ∧ tn 0 s2.heap ∧ (∀ b ∈ fp, FpOk X pins H' b) ∧ R J H'
def PI (X : Cx) (tg iter : Expr) (wi : TI) : Prop :=
 ∀ (pins : List (Addr × Obj)) (s : Shared) (σ : St) (H : Hp) (R : It → Hp → Prop), Inv X pins σ H s → wi σ H R →
  wpAny (model X.prog X.w) X.A (eval iter X.env) (fun v s1 => wpAny (model X.prog X.w) X.A (pyIter v) (PIE X pins σ tg R) X.xe s1) X.xe s
theorem go_of {M : Model} {A : Around} {E : Value → Shared → Prop} {s : Shared} {tg : Expr} {it : Addr} {u : Value} {o : Obj} {n : String} {vs : Array Value} {Q : Unit → Shared → Prop} (ho : s.heap.get? it = some o) (hc : o.cls = .type n) (hd : o.data = .fields vs)
    (hn : ["enumerate", "zip", "dict_itemiterator", "dict_reverseitemiterator", "odict_iterator", "itertools.zip_longest", "itertools.pairwise"].contains n = false) (hQ : Q () s) : wpAny M A (letOwnedTupleGo tg (.ref it) u) Q E s := by
  unfold letOwnedTupleGo
  cases tg <;> first
    | exact wpAny_pure hQ
    | (cases u <;> first
        | exact wpAny_pure hQ
        | (refine wpAny_bind (wpAny_load ho ?_)
           rw [hc, hd]
           show wpAny M A (if (["enumerate", "zip", "dict_itemiterator", "dict_reverseitemiterator", "odict_iterator", "itertools.zip_longest", "itertools.pairwise"].contains n && vs[0]? == some (rawInt _)) = true then _ else _) Q E s
           rw [if_neg (by intro h; rw [hn, Bool.false_and] at h; cases h)]
           exact wpAny_pure hQ))
def Itl (K : PySem.W.Frag) (a : Addr) : It :=
 ⟨fun i H => ∃ xs x, SqL K H a xs ∧ xs[i]? = some x, fun i H x H' => H' = H ∧ ∀ xs, SqL K H a xs → xs[i]? = some x, fun i H => ∃ xs, SqL K H a xs ∧ xs.length ≤ i⟩
def Itt (K : PySem.W.Frag) (a : Addr) : It :=
 ⟨fun i H => ∃ xs x, SqT K H a xs ∧ xs[i]? = some x, fun i H x H' => H' = H ∧ ∀ xs, SqT K H a xs → xs[i]? = some x, fun i H => ∃ xs, SqT K H a xs ∧ xs.length ≤ i⟩
def Itr (lo : Int) (n : Nat) : It := ⟨fun i _ => i < n, fun i H x H' => H' = H ∧ x = .int (lo + i), fun i _ => n ≤ i⟩
theorem turn_list {P : Program} {w : World} {K : PySem.W.Frag} {tg : Expr} (a it : Addr) : Turn P w K tg (Itl K a) [it] it (fun i h => h.IsListIter it a i) where
 mem := by simp
 obj := fun i h st b hb => by
  have e : b = it := by simpa using hb
  subst e
  obtain ⟨o, e, c, d⟩ := st
  exact ⟨o, e, fun v z => by rw [d] at z; cases z⟩
 keep := fun i h h' st k => st.at fun o e => k it (by simp) o e
 item := by
  intro X hP hw hK hc i pins s σ H E I hf st hg
  subst hP hw hK
  obtain ⟨xs, x, hq, hx⟩ := hg
  obtain ⟨its, rv, p, hz⟩ := I.list hq
  obtain ⟨u, hu, ru⟩ := rv.get hx
  obtain ⟨f0, f1, f2, f3, f4, f5⟩ := hf it (by simp)
  refine wpAny_pyNext_list_item st p.isList (x := u) (by simpa using hu) fun h' st' sb => ?_
  have I1 : Inv X pins σ H { s with heap := h' } := I.turned (t' := s.toks) (fun b o hb e => (sb.2 b hb).trans e) f0 f1 f3 f4 f5
  obtain ⟨o, e, c, d⟩ := id st'
  exact ⟨u, rfl, go_of (s := { s with heap := h' }) e c d (by decide) ⟨x, H, I1, ru, ⟨rfl, fun ys hy => by rw [I.list_inj hy hq]; exact hx⟩, st', fun b hb => (hf b hb).1⟩⟩
 done := by
  intro X hP hw hK hc i pins s σ H E I hf st hg
  subst hP hw hK
  obtain ⟨xs, hq, hx⟩ := hg
  obtain ⟨its, rv, p, hz⟩ := I.list hq
  obtain ⟨f0, f1, f2, f3, f4, f5⟩ := hf it (by simp)
  have hl := rv.length
  exact wpAny_pyNext_list_end (I.ok.hd hc) st p.isList (by simp; omega) fun h' eb => ⟨rfl, I.turned (t' := s.toks) (fun b o hb e => eb b o hb e) f0 f1 f3 f4 f5⟩
 self := fun _ _ _ _ _ st h => wpAny_pyIter_listiter st h
theorem turn_tuple {P : Program} {w : World} {K : PySem.W.Frag} {tg : Expr} (a it : Addr) : Turn P w K tg (Itt K a) [it] it (fun i h => h.IsTupleIter it a i) where
 mem := by simp
 obj := fun i h st b hb => by
  have e : b = it := by simpa using hb
  subst e
  obtain ⟨o, e, c, d⟩ := st
  exact ⟨o, e, fun v z => by rw [d] at z; cases z⟩
 keep := fun i h h' st k => st.at fun o e => k it (by simp) o e
 item := by
  intro X hP hw hK hc i pins s σ H E I hf st hg
  subst hP hw hK
  obtain ⟨xs, x, hq, hx⟩ := hg
  obtain ⟨its, rv, p, hz⟩ := I.tuple hq
  obtain ⟨u, hu, ru⟩ := rv.get hx
  obtain ⟨f0, f1, f2, f3, f4, f5⟩ := hf it (by simp)
  refine wpAny_pyNext_tuple_item st (show s.heap.IsTuple a its.toArray from p) (x := u) (by simpa using hu) fun h' st' sb => ?_
  have I1 : Inv X pins σ H { s with heap := h' } := I.turned (t' := s.toks) (fun b o hb e => (sb.2 b hb).trans e) f0 f1 f3 f4 f5
  obtain ⟨o, e, c, d⟩ := id st'
  exact ⟨u, rfl, go_of (s := { s with heap := h' }) e c d (by decide) ⟨x, H, I1, ru, ⟨rfl, fun ys hy => by rw [I.tuple_inj hy hq]; exact hx⟩, st', fun b hb => (hf b hb).1⟩⟩
 done := by
  intro X hP hw hK hc i pins s σ H E I hf st hg
  subst hP hw hK
  obtain ⟨xs, hq, hx⟩ := hg
  obtain ⟨its, rv, p, hz⟩ := I.tuple hq
  obtain ⟨f0, f1, f2, f3, f4, f5⟩ := hf it (by simp)
  have hl := rv.length
  exact wpAny_pyNext_tuple_end (I.ok.hd hc) st (show s.heap.IsTuple a its.toArray from p) (by simp; omega) fun h' eb => ⟨rfl, I.turned (t' := s.toks) (fun b o hb e => eb b o hb e) f0 f1 f3 f4 f5⟩
 self := fun _ _ _ _ _ st h => wpAny_pyIter_tupleiter st h
theorem turn_range {P : Program} {w : World} {K : PySem.W.Frag} {tg : Expr} (it : Addr) (lo : Int) (n : Nat) : Turn P w K tg (Itr lo n) [it] it (fun i h => IsRangeIter h it (lo + (i : Nat) * 1) ((n : Int) - (i : Nat)) 1) where
 mem := by simp
 obj := fun i h st b hb => by
  have e : b = it := by simpa using hb
  subst e
  exact ⟨_, st, fun v z => by
   have z' : Data.fields _ = Data.cell v := z
   cases z'⟩
 keep := fun i h h' st k => k it (by simp) _ st
 item := by
  intro X hP hw hK hc i pins s σ H E I hf st hg
  subst hP hw hK
  obtain ⟨f0, f1, f2, f3, f4, f5⟩ := hf it (by simp)
  have W := Walks.range (prog := X.prog) (w := X.w) (I.ok.hd hc) it lo 1 n
  refine W.item i s _ _ hg st fun v h' tk hv st' kk => ?_
  obtain ⟨t, rfl⟩ := hv
  have I1 : Inv X pins σ H { s with heap := h', toks := tk } := I.turned (fun b o hb e => kk b o (by simpa using hb) e) f0 f1 f3 f4 f5
  refine ⟨_, rfl, go_of (s := { s with heap := h', toks := tk }) (n := "range_iterator") st' rfl rfl (by decide) ⟨.int (lo + i), H, I1, ⟨t, ?_⟩, ⟨rfl, rfl⟩, st', fun b hb => (hf b hb).1⟩⟩
  rw [Int.mul_one]
 done := by
  intro X hP hw hK hc i pins s σ H E I hf st hg
  subst hP hw hK
  obtain ⟨f0, f1, f2, f3, f4, f5⟩ := hf it (by simp)
  exact wpAny_pyNext_range_end (I.ok.hd hc) st (by have : n ≤ i := hg; omega) fun h' eb => ⟨rfl, I.turned (t' := s.toks) (fun b o hb e => eb b o hb e) f0 f1 f3 f4 f5⟩
 self := fun _ _ _ _ _ st h => wpAny_pyIter_rangeiter st h
end L2
namespace L2
open PySem PySem.Spec PyProof.Rows
section
variable {X : Cx} {tg : Expr}
def iList (K : PySem.W.Frag) (tl : TE) : TI := fun σ H R => tl σ H fun x H1 => ∃ a, x = .ref a ∧ (∃ xs, SqL K H1 a xs) ∧ R (Itl K a) H1
def iTup (K : PySem.W.Frag) (tl : TE) : TI := fun σ H R => tl σ H fun x H1 => ∃ a, x = .ref a ∧ (∃ xs, SqT K H1 a xs) ∧ R (Itt K a) H1
theorem pi_list {l : Expr} {tl : TE} (hl : PE X l tl) : PI X tg l (iList X.K tl) := by
 intro pins s σ H R I h
 refine thn (hl pins s σ H _ I h) fun v s1 ⟨x, H1, I1, r1, q1⟩ => ?_
 obtain ⟨a, e, ⟨xs, hq⟩, q⟩ := q1
 subst e
 cases r1
 obtain ⟨its, rv, p, hz⟩ := I1.list hq
 refine wpAny_pyIter_list p.isList ?_
 refine ⟨s1.heap.objs.size, [s1.heap.objs.size], _, _, H1, rfl, I1.kept (t' := s1.toks) fun b o e => Heap.get?_push_of_some _ e, turn_list a _, ⟨_, Heap.get?_push_size _ rfl, rfl, rfl⟩, fun b hb => ?_, q⟩
 have e : b = s1.heap.objs.size := by simpa using hb
 subst e
 exact I1.fpOk (Nat.le_refl _) (I1.hok.fresh (Nat.le_refl _))
theorem pi_tup {l : Expr} {tl : TE} (hl : PE X l tl) : PI X tg l (iTup X.K tl) := by
 intro pins s σ H R I h
 refine thn (hl pins s σ H _ I h) fun v s1 ⟨x, H1, I1, r1, q1⟩ => ?_
 obtain ⟨a, e, ⟨xs, hq⟩, q⟩ := q1
 subst e
 cases r1
 obtain ⟨its, rv, p, hz⟩ := I1.tuple hq
 refine wpAny_pyIter_tuple (show s1.heap.IsTuple a its.toArray from p) ?_
 refine ⟨s1.heap.objs.size, [s1.heap.objs.size], _, _, H1, rfl, I1.kept (t' := s1.toks) fun b o e => Heap.get?_push_of_some _ e, turn_tuple a _, ⟨_, Heap.get?_push_size _ rfl, rfl, rfl⟩, fun b hb => ?_, q⟩
 have e : b = s1.heap.objs.size := by simpa using hb
 subst e
 exact I1.fpOk (Nat.le_refl _) (I1.hok.fresh (Nat.le_refl _))
theorem range_it {pins : List (Addr × Obj)} {σ : St} {H : Hp} {s : Shared} {R : It → Hp → Prop} {E : Value → Shared → Prop} {lo hi : Int} {t u v : Tok} {tk : Nat} (I : Inv X pins σ H s) (h1 : -(2 ^ 62) ≤ lo) (h2 : lo < 2 ^ 62) (h3 : -(2 ^ 62) ≤ hi) (h4 : hi < 2 ^ 62)
  (q : R (Itr lo (hi - lo).toNat) H) : wpAny (model X.prog X.w) X.A (pyIter (.ref s.heap.objs.size)) (PIE X pins σ tg R) E { s with heap := s.heap.push { cls := .type "range", data := .fields #[.int lo t, .int hi u, .int 1 v] }, toks := tk } := by
 refine wpAny_pyIter_range (IsRange.new ..) (small_one h1 h2 h3 h4) ?_
 have I1 : Inv X pins σ H { s with heap := s.heap.push { cls := .type "range", data := .fields #[.int lo t, .int hi u, .int 1 v] }, toks := tk } := I.kept fun b o e => Heap.get?_push_of_some _ e
 refine ⟨(s.heap.push { cls := .type "range", data := .fields #[.int lo t, .int hi u, .int 1 v] }).objs.size, [(s.heap.push { cls := .type "range", data := .fields #[.int lo t, .int hi u, .int 1 v] }).objs.size], _, _, H, rfl,
  I1.kept (t' := tk) fun b o e => Heap.get?_push_of_some _ e, turn_range _ lo (hi - lo).toNat, ?_, fun b hb => ?_, q⟩
 ·have e1 : lo + ((0 : Nat) : Int) * 1 = lo := by simp
  have e2 : (((hi - lo).toNat : Nat) : Int) - ((0 : Nat) : Int) = Builtin.Range.rangeSize lo hi 1 := by rw [rangeSize_one]; split <;> omega
  show IsRangeIter _ _ (lo + ((0 : Nat) : Int) * 1) ((((hi - lo).toNat : Nat) : Int) - ((0 : Nat) : Int)) 1
  rw [e1, e2]
  exact Heap.get?_push_size _ rfl
 ·have e : b = (s.heap.push { cls := .type "range", data := .fields #[.int lo t, .int hi u, .int 1 v] }).objs.size := by simpa using hb
  subst e
  exact I1.fpOk (Nat.le_refl _) (I1.hok.fresh (Nat.le_refl _))
def iRng1 (ta : TA) : TI := fun σ H R => ta σ H fun vs H1 => ∃ j : Int, vs = [.int j] ∧ -(2 ^ 62) ≤ j ∧ j < 2 ^ 62 ∧ R (Itr 0 j.toNat) H1
theorem pi_range1 {a : Expr} {ta : TA} {p pos : Pos} (hg : Gl X "range") (hm : X.mg "range" = none) (ha : PA X [a] ta) (hs : starEach [a] X.env = [(false, eval a X.env)] := by rfl) : PI X tg (.Call (.Name "range" p) [a] [] pos) (iRng1 ta) := by
 intro pins s σ H R I h
 refine Call_ (ld_blt I hg hm boot_range (PyProof.Rows.callWith_type1 (thn (ha pos pins s σ H _ I h) fun us s1 ⟨vs, H1, I1, r1, q1⟩ => ?_) hs rfl))
 obtain ⟨j, e, q1, q2, q⟩ := q1
 subst e
 cases r1 with
 | cons r rr =>
  cases rr
  obtain ⟨t, rfl⟩ := r
  exact call_range_1 (range_it I1 (by omega) (by omega) q1 q2 (by simpa using q))
def tFor (wi : TI) (g : TG) (tb : TS) : TS := fun D σ H => wi σ H fun J H1 => ∃ W : Nat → Nat → St → Hp → Prop, (∃ m, W 0 m σ H1) ∧ ∀ i m σ H, W i m σ H →
 (J.stop i H ∧ D.nx σ H) ∨ (J.go i H ∧ ∃ N : St → Hp → Prop, (∀ σ' H', N σ' H' → ∃ m', m' < m ∧ W (i + 1) m' σ' H') ∧ ∀ x H', J.yld i H x H' → g x σ H' fun σ2 H2 => tb { D with nx := N, ct := N, bk := D.nx } σ2 H2)
def pinsAt (fp : List Addr) (h : Heap) : List (Addr × Obj) := fp.filterMap fun b => (h.get? b).map fun o => (b, o)
theorem mem_pinsAt {fp : List Addr} {h : Heap} {b : Addr} {o : Obj} (hb : b ∈ fp) (e : h.get? b = some o) : (b, o) ∈ pinsAt fp h := List.mem_filterMap.mpr ⟨b, hb, by rw [e]; rfl⟩
theorem of_pinsAt {fp : List Addr} {h : Heap} {p : Addr × Obj} (hp : p ∈ pinsAt fp h) : p.1 ∈ fp ∧ h.get? p.1 = some p.2 := by
 obtain ⟨b, hb, e⟩ := List.mem_filterMap.mp hp
 cases q : h.get? b with
 | none => rw [q] at e; cases e
 | some o =>
  rw [q] at e
  have e' : (b, o) = p := Option.some.inj e
  subst e'
  exact ⟨hb, q⟩
theorem Inv.pinned {pins : List (Addr × Obj)} {σ : St} {H : Hp} {s : Shared} {fp : List Addr} (I : Inv X pins σ H s) (hf : ∀ b ∈ fp, FpOk X pins H b) (ho : ∀ b ∈ fp, ∃ o, s.heap.get? b = some o ∧ ∀ v, o.data ≠ .cell v) : Inv X (pins ++ pinsAt fp s.heap) σ H s :=
 I.pins_of fun p hp => (List.mem_append.mp hp).elim (fun z => I.pin p (List.mem_append_right _ z)) fun z => by
  obtain ⟨hb, e⟩ := of_pinsAt z
  obtain ⟨f0, f1, f2, _⟩ := hf p.1 hb
  obtain ⟨o, e', d⟩ := ho p.1 hb
  rw [e] at e'; cases e'
  exact ⟨e, f0, f1, f2, d⟩
theorem Inv.unpinned {pins pl : List (Addr × Obj)} {σ : St} {H : Hp} {s : Shared} (I : Inv X (pins ++ pl) σ H s) : Inv X pins σ H s := I.pins_of fun p hp => I.pin p (List.mem_append_right _ (List.mem_append_left _ hp))
theorem ps_for {iter : Expr} {body : List Stmt} {wi : TI} {g : TG} {tb : TS} {pos : Pos} (hp : PassesOwn (model X.prog X.w) X.A X.env X.xe) (hc : X.calm = true) (hi : PI X tg iter wi) (hg : PG X tg g) (hb : PSs X body tb)
  (hs : ∀ x, foldedSetIterable iter X.env x = pure x := by intro _; rfl) : PS X (.For tg iter body [] pos) (tFor wi g tb) := by
 intro pins s σ H D I h
 refine wpAny_For (thn (hi pins s σ H _ I h) fun v s1 h1 => thn h1 fun itv s2 h2 => ?_) hs
 obtain ⟨it, fp, tn, J, H2, e, I2, T, st2, f2, W, ⟨m0, w0⟩, turn⟩ := h2
 subst e
 have stat : ∀ {H' : Hp}, (∀ b ∈ fp, H' b = none) → ∀ b ∈ fp, FpOk X pins H' b := fun hn b hb => ⟨hn b hb, (f2 b hb).2⟩
 refine codeAny_forLoop_any (fun n s' => ∃ i σ' H', Inv X pins σ' H' s' ∧ tn i s'.heap ∧ (∀ b ∈ fp, H' b = none) ∧ W i n σ' H') ?_ m0 ⟨0, σ, H2, I2, st2, fun b hb => (f2 b hb).1, w0⟩
 rintro n s3 ⟨i, σ3, H3, I3, st3, fr3, w3⟩
 rcases turn i n σ3 H3 w3 with ⟨stop, qn⟩ | ⟨go, N, hN, step⟩
 ·refine wpAny_passesOwn hp (thn (T.done X rfl rfl rfl hc i pins s3 σ3 H3 X.xe I3 (stat fr3) st3 stop) fun r s4 ⟨hr, I4⟩ => ?_)
  subst hr
  exact wpAny_execs_nil ⟨σ3, H3, I4, qn⟩
 ·refine wpAny_passesOwn hp (thn (T.item X rfl rfl rfl hc i pins s3 σ3 H3 X.xe I3 (stat fr3) st3 go) fun r s4 ⟨u, hr, h4⟩ => ?_)
  subst hr
  refine wpAny_passesOwn hp (thn h4 fun _ s5 ⟨x, H5, I5, r5, y5, st5, fr5⟩ => ?_)
  have I5' := I5.pinned (stat fr5) (T.obj _ _ st5)
  refine wpAny_passesOwn hp (thn (hg _ s5 σ3 H5 x u _ I5' r5 (step x H5 y5)) fun _ s6 ⟨σ6, H6, I6, q6⟩ => ?_)
  refine wpAny_passesOwn hp (thn (hb _ s6 σ6 H6 _ I6 q6) fun f s7 q7 => ?_)
  have again : ∀ {σ7 : St} {H7 : Hp}, Inv X (pins ++ pinsAt fp s5.heap) σ7 H7 s7 → N σ7 H7 → ∃ m, m < n ∧ ∃ i σ' H', Inv X pins σ' H' s7 ∧ tn i s7.heap ∧ (∀ b ∈ fp, H' b = none) ∧ W i m σ' H' := fun {σ7 H7} I7 n7 => by
   obtain ⟨m', hm, w7⟩ := hN σ7 H7 n7
   refine ⟨m', hm, i + 1, σ7, H7, I7.unpinned, T.keep _ _ _ st5 fun b hb o e => (I7.pin (b, o) (List.mem_append_right _ (List.mem_append_right _ (mem_pinsAt hb e)))).1, fun b hb => ?_, w7⟩
   obtain ⟨o, e, d⟩ := T.obj _ _ st5 b hb
   exact (I7.pin (b, o) (List.mem_append_right _ (List.mem_append_right _ (mem_pinsAt hb e)))).2.1
  cases f with
  | next => obtain ⟨σ7, H7, I7, n7⟩ := q7; exact again I7 n7
  | cont => obtain ⟨σ7, H7, I7, n7⟩ := q7; exact again I7 n7
  | brk => obtain ⟨σ7, H7, I7, q7⟩ := q7; exact ⟨σ7, H7, I7.unpinned, q7⟩
  | ret v => obtain ⟨x7, σ7, H7, I7, r7, q7⟩ := q7; exact ⟨x7, σ7, H7, I7.unpinned, r7, q7⟩
end
theorem for_list {K : PySem.W.Frag} {a : Addr} {xs : List V} {g : TG} {tb : TS} {D : Ends} {σ : St} {H : Hp} (Pv : Nat → St → Hp → Prop) (h0 : Pv 0 σ H) (hl : ∀ i σ H, i ≤ xs.length → Pv i σ H → SqL K H a xs)
  (hs : ∀ i x σ H, xs[i]? = some x → Pv i σ H → g x σ H fun σ2 H2 => tb { D with nx := Pv (i + 1), ct := Pv (i + 1), bk := D.nx } σ2 H2) (hd : ∀ σ H, Pv xs.length σ H → D.nx σ H) :
  ∃ W : Nat → Nat → St → Hp → Prop, (∃ m, W 0 m σ H) ∧ ∀ i m σ H, W i m σ H →
   ((Itl K a).stop i H ∧ D.nx σ H) ∨ ((Itl K a).go i H ∧ ∃ N : St → Hp → Prop, (∀ σ' H', N σ' H' → ∃ m', m' < m ∧ W (i + 1) m' σ' H') ∧ ∀ x H', (Itl K a).yld i H x H' → g x σ H' fun σ2 H2 => tb { D with nx := N, ct := N, bk := D.nx } σ2 H2) := by
 refine ⟨fun i m σ H => m = xs.length - i ∧ i ≤ xs.length ∧ Pv i σ H, ⟨xs.length, by simp, Nat.zero_le _, h0⟩, ?_⟩
 rintro i m σ H ⟨rfl, hi, p⟩
 have q := hl i σ H hi p
 by_cases hlt : i < xs.length
 ·refine .inr ⟨⟨xs, xs[i], q, by simp [hlt]⟩, Pv (i + 1), fun σ' H' p' => ⟨xs.length - (i + 1), by omega, rfl, hlt, p'⟩, fun x H' y => ?_⟩
  obtain ⟨e, y⟩ := y
  subst e
  exact hs i x σ _ (y xs q) p
 ·have e : i = xs.length := by omega
  subst e
  exact .inl ⟨⟨xs, q, Nat.le_refl _⟩, hd σ H p⟩
theorem for_range {lo : Int} {n : Nat} {g : TG} {tb : TS} {D : Ends} {σ : St} {H : Hp} (Pv : Nat → St → Hp → Prop) (h0 : Pv 0 σ H)
  (hs : ∀ i σ H, i < n → Pv i σ H → g (.int (lo + i)) σ H fun σ2 H2 => tb { D with nx := Pv (i + 1), ct := Pv (i + 1), bk := D.nx } σ2 H2) (hd : ∀ σ H, Pv n σ H → D.nx σ H) :
  ∃ W : Nat → Nat → St → Hp → Prop, (∃ m, W 0 m σ H) ∧ ∀ i m σ H, W i m σ H →
   ((Itr lo n).stop i H ∧ D.nx σ H) ∨ ((Itr lo n).go i H ∧ ∃ N : St → Hp → Prop, (∀ σ' H', N σ' H' → ∃ m', m' < m ∧ W (i + 1) m' σ' H') ∧ ∀ x H', (Itr lo n).yld i H x H' → g x σ H' fun σ2 H2 => tb { D with nx := N, ct := N, bk := D.nx } σ2 H2) := by
 refine ⟨fun i m σ H => m = n - i ∧ i ≤ n ∧ Pv i σ H, ⟨n, by simp, Nat.zero_le _, h0⟩, ?_⟩
 rintro i m σ H ⟨rfl, hi, p⟩
 by_cases hlt : i < n
 ·refine .inr ⟨hlt, Pv (i + 1), fun σ' H' p' => ⟨n - (i + 1), by omega, rfl, hlt, p'⟩, fun x H' y => ?_⟩
  obtain ⟨e, y⟩ := y
  subst e y
  exact hs i σ _ hlt p
 ·have e : i = n := by omega
  subst e
  exact .inl ⟨Nat.le_refl _, hd σ H p⟩
end L2
namespace L2
open PySem PySem.Spec PyProof.Rows
abbrev R2 := V → V → Hp → VK → Prop
def OpR (X : Cx) (f : Value → Value → Sem Value) (r : R2) : Prop :=
 ∀ (pins : List (Addr × Obj)) (s : Shared) (σ : St) (H : Hp) (x y : V) (v u : Value) (Q : VK), Inv X pins σ H s → RelV x v → RelV y u → r x y H Q →
  wpAny (model X.prog X.w) X.A (f v u) (EP X pins σ Q) X.xe s
def UnR (X : Cx) (f : Value → Sem Value) (r : V → Hp → VK → Prop) : Prop :=
 ∀ (pins : List (Addr × Obj)) (s : Shared) (σ : St) (H : Hp) (x : V) (v : Value) (Q : VK), Inv X pins σ H s → RelV x v → r x H Q →
  wpAny (model X.prog X.w) X.A (f v) (EP X pins σ Q) X.xe s
def CallR (X : Cx) (f : Value) (r : List V → Hp → VK → Prop) : Prop :=
 ∀ (pins : List (Addr × Obj)) (s : Shared) (σ : St) (H : Hp) (xs : List V) (us : List Value) (Q : VK), Inv X pins σ H s → Vals xs us → r xs H Q →
  wpAny (model X.prog X.w) X.A (call f us) (EP X pins σ Q) X.xe s
def tOp (r : R2) (ta tb : TE) : TE := fun σ H Q => ta σ H fun x H1 => tb σ H1 fun y H2 => r x y H2 Q
def tUn (r : V → Hp → VK → Prop) (ta : TE) : TE := fun σ H Q => ta σ H fun x H1 => r x H1 Q
def rI (C : Int → Int → Prop) (g : Int → Int → V) : R2 := fun x y H Q => ∃ i j, x = .int i ∧ y = .int j ∧ C i j ∧ Q (g i j) H
def rI0 (g : Int → Int → V) : R2 := fun x y H Q => ∃ i j, x = .int i ∧ y = .int j ∧ Q (g i j) H
def rU (g : Int → V) : V → Hp → VK → Prop := fun x H Q => ∃ i, x = .int i ∧ Q (g i) H
section
variable {X : Cx} {a b c : Expr} {ta tb tc : TE} {pos : Pos}
theorem binT (ha : PE X a ta) (hb : PE X b tb) {pins : List (Addr × Obj)} {s : Shared} {σ : St} {H : Hp} {R : V → V → Hp → Prop} (I : Inv X pins σ H s)
  (h : ta σ H fun x H1 => tb σ H1 fun y H2 => R x y H2) {Q : Value → Shared → Prop} {f : Value → Value → Sem Value}
  (hf : ∀ v u s2 x y H2, Inv X pins σ H2 s2 → RelV x v → RelV y u → R x y H2 → wpAny (model X.prog X.w) X.A (f v u) Q X.xe s2) :
  wpAny (model X.prog X.w) X.A (eval a X.env) (fun v s₁ => wpAny (model X.prog X.w) X.A (eval b X.env) (fun u s₂ => wpAny (model X.prog X.w) X.A (f v u) Q X.xe s₂) X.xe s₁) X.xe s := by
 refine thn (ha pins s σ H _ I h) fun v s1 ⟨x, H1, I1, r1, q1⟩ => ?_
 refine thn (hb pins s1 σ H1 _ I1 q1) fun u s2 ⟨y, H2, I2, r2, q2⟩ => ?_
 exact hf v u s2 x y H2 I2 r1 r2 q2
theorem pe_op {op : Operator} {r : R2} (ho : OpR X (binaryOp op) r) (ha : PE X a ta) (hb : PE X b tb) : PE X (.BinOp a op b pos) (tOp r ta tb) := by
 intro pins s σ H Q I h
 exact wpAny_BinOp (binT ha hb I h fun v u s2 x y H2 I2 rx ry q => ho pins s2 σ H2 x y v u Q I2 rx ry q)
theorem pe_un {op : UnaryOp} {r : V → Hp → VK → Prop} (ho : UnR X (unaryOp op) r) (ha : PE X a ta) : PE X (.UnaryOp op a pos) (tUn r ta) := by
 intro pins s σ H Q I h
 exact UnaryOp_ (thn (ha pins s σ H _ I h) fun v s1 ⟨x, H1, I1, r1, q1⟩ => ho pins s1 σ H1 x v Q I1 r1 q1)
theorem opI {f : Value → Value → Sem Value} {C : Int → Int → Prop} {g : Int → Int → Int}
  (rule : ∀ (i j : Int) (t u : Tok) (s : Shared) (Q : Value → Shared → Prop) (E : Value → Shared → Prop), C i j → Q (.int (g i j) s.toks) { s with toks := s.toks + 1 } → wpAny (model X.prog X.w) X.A (f (.int i t) (.int j u)) Q E s) :
  OpR X f (rI C fun i j => .int (g i j)) := by
 intro pins s σ H x y v u Q I rx ry h
 obtain ⟨i, j, rfl, rfl, hc, q⟩ := h
 obtain ⟨t, rfl⟩ := rx
 obtain ⟨t', rfl⟩ := ry
 exact rule i j t t' s _ _ hc ⟨.int (g i j), H, I.tok _, ⟨_, rfl⟩, q⟩
theorem opI0 {f : Value → Value → Sem Value} {g : Int → Int → Int}
  (rule : ∀ (i j : Int) (t u : Tok) (s : Shared) (Q : Value → Shared → Prop) (E : Value → Shared → Prop), Q (.int (g i j) s.toks) { s with toks := s.toks + 1 } → wpAny (model X.prog X.w) X.A (f (.int i t) (.int j u)) Q E s) :
  OpR X f (rI0 fun i j => .int (g i j)) := by
 intro pins s σ H x y v u Q I rx ry h
 obtain ⟨i, j, rfl, rfl, q⟩ := h
 obtain ⟨t, rfl⟩ := rx
 obtain ⟨t', rfl⟩ := ry
 exact rule i j t t' s _ _ ⟨.int (g i j), H, I.tok _, ⟨_, rfl⟩, q⟩
theorem opB0 {f : Value → Value → Sem Value} {g : Int → Int → Bool}
  (rule : ∀ (i j : Int) (t u : Tok) (s : Shared) (Q : Value → Shared → Prop) (E : Value → Shared → Prop), Q (.bool (g i j)) s → wpAny (model X.prog X.w) X.A (f (.int i t) (.int j u)) Q E s) :
  OpR X f (rI0 fun i j => .bl (g i j)) := by
 intro pins s σ H x y v u Q I rx ry h
 obtain ⟨i, j, rfl, rfl, q⟩ := h
 obtain ⟨t, rfl⟩ := rx
 obtain ⟨t', rfl⟩ := ry
 exact rule i j t t' s _ _ ⟨.bl (g i j), H, I, rfl, q⟩
def CDiv (i j : Int) : Prop := 0 < j ∧ j < 1073741824
def CPow (i j : Int) : Prop := 0 ≤ j ∧ j ≤ 1000000 ∧ i.natAbs < 2 ^ 64
def CMul (i j : Int) : Prop := (-(2 ^ 64) < i ∧ i < 2 ^ 64) ∨ (-(2 ^ 64) < j ∧ j < 2 ^ 64)
theorem CMul.ok {i j : Int} (h : CMul i j) : IntMulOk i j := by
 rcases h with ⟨h1, h2⟩ | ⟨h1, h2⟩
 ·exact .of_left (intBits_le_64 h1 h2)
 ·exact .of_right (intBits_le_64 h1 h2)
theorem op_add : OpR X (binaryOp .Add) (rI0 fun i j => .int (i + j)) := opI0 fun _ _ _ _ _ _ _ q => add_int q
theorem op_sub : OpR X (binaryOp .Sub) (rI0 fun i j => .int (i - j)) := opI0 fun _ _ _ _ _ _ _ q => sub_int q
theorem op_mul : OpR X (binaryOp .Mult) (rI CMul fun i j => .int (i * j)) := opI fun _ _ _ _ _ _ _ hc q => mul_int q hc.ok
theorem op_fdiv : OpR X (binaryOp .FloorDiv) (rI CDiv fun i j => .int (i / j)) := opI fun i j _ _ _ _ _ hc q => by
 have h1 : (0 : Int) < j := hc.1
 have h2 : j < 1073741824 := hc.2
 exact floordiv_int (by omega) (by rw [Int.fdiv_eq_ediv_of_nonneg i (by omega)]; exact q) (.inl (PyProof.noPylong_small (by omega)))
theorem op_mod : OpR X (binaryOp .Mod) (rI (fun _ j => 0 < j) fun i j => .int (i % j)) := opI fun i j _ _ _ _ _ hc q => by
 have h1 : (0 : Int) < j := hc
 exact mod_int' (by omega) (by rw [Int.fmod_eq_emod_of_nonneg i (by omega)]; exact q)
theorem op_pow : OpR X (binaryOp .Pow) (rI CPow fun i j => .int (i ^ j.toNat)) := opI fun _ _ _ _ _ _ _ hc q => pow_int_small hc.1 hc.2.1 hc.2.2 q
theorem unI {f : Value → Sem Value} {g : Int → Int}
  (rule : ∀ (i : Int) (t : Tok) (s : Shared) (Q : Value → Shared → Prop) (E : Value → Shared → Prop), Q (.int (g i) s.toks) { s with toks := s.toks + 1 } → wpAny (model X.prog X.w) X.A (f (.int i t)) Q E s) :
  UnR X f (rU fun i => .int (g i)) := by
 intro pins s σ H x v Q I rx h
 obtain ⟨i, rfl, q⟩ := h
 obtain ⟨t, rfl⟩ := rx
 exact rule i t s _ _ ⟨.int (g i), H, I.tok _, ⟨_, rfl⟩, q⟩
theorem un_neg : UnR X (unaryOp .USub) (rU fun i => .int (-i)) := unI fun _ _ _ _ _ q => neg_int q
end
def scal : V → V → Bool
 | .non, .non => true | .non, .int _ => true | .int _, .non => true | .non, .bl _ => true | .bl _, .non => true | .non, .str _ => true | .str _, .non => true
 | .int _, .int _ => true | .bl _, .bl _ => true | .str _, .str _ => true | .byt _, .byt _ => true
 | .int _, .str _ => true | .str _, .int _ => true | .bl _, .str _ => true | .str _, .bl _ => true
 | _, _ => false
def rEq : R2 := fun x y H Q => scal x y = true ∧ Q (.bl (decide (x = y))) H
def rNe : R2 := fun x y H Q => scal x y = true ∧ Q (.bl (!decide (x = y))) H
theorem dec_int {i j : Int} : decide (V.int i = V.int j) = (i == j) := by
 rw [Bool.eq_iff_iff]
 simp
theorem dec_bl {i j : Bool} : decide (V.bl i = V.bl j) = (i == j) := by
 rw [Bool.eq_iff_iff]
 simp
theorem dec_str {i j : Str} : decide (V.str i = V.str j) = (i == j) := by
 rw [Bool.eq_iff_iff]
 simp
theorem dec_byt {i j : Array UInt8} : decide (V.byt i = V.byt j) = (i.toList == j.toList) := by
 rw [Bool.eq_iff_iff]
 cases i
 cases j
 simp
section
variable {X : Cx} {a b c : Expr} {ta tb tc : TE} {pos : Pos}
theorem fin_bl {pins : List (Addr × Obj)} {σ : St} {H : Hp} {s : Shared} {Q : VK} {k k' : Bool} (I : Inv X pins σ H s) (q : Q (.bl k) H) (e : k = k') : EP X pins σ Q (.bool k') s := by
 subst e
 exact ⟨.bl k, H, I, rfl, q⟩
theorem op_eq : OpR X (compareOp .Eq) rEq := by
 intro pins s σ H x y v u Q I rx ry h
 obtain ⟨hs, q⟩ := h
 cases x with
 | non =>
  cases rx
  cases y with
  | non => cases ry; exact PySem.EqNone.eq_none_none (fin_bl I q (by simp))
  | bl j => cases ry; exact PySem.EqNone.eq_none_bool (fin_bl I q (by simp))
  | int j => obtain ⟨t', rfl⟩ := ry; exact PySem.EqNone.eq_none_int (fin_bl I q (by simp))
  | str j => obtain ⟨t', rfl⟩ := ry; exact PySem.EqNone.eq_none_str (fin_bl I q (by simp))
  | _ => exact absurd (show false = true from hs) Bool.false_ne_true
 | bl i =>
  cases rx
  cases y with
  | non => cases ry; exact PySem.EqNone.eq_bool_none (fin_bl I q (by simp))
  | bl j => cases ry; exact eq_bool (fin_bl I q dec_bl)
  | str j => obtain ⟨t', rfl⟩ := ry; exact PySem.EqMixed.eq_bool_str (fin_bl I q (by simp))
  | _ => exact absurd (show false = true from hs) Bool.false_ne_true
 | int i =>
  obtain ⟨t, rfl⟩ := rx
  cases y with
  | non => cases ry; exact PySem.EqNone.eq_int_none (fin_bl I q (by simp))
  | int j => obtain ⟨t', rfl⟩ := ry; exact eq_int (fin_bl I q dec_int)
  | str j => obtain ⟨t', rfl⟩ := ry; exact PySem.EqMixed.eq_int_str (fin_bl I q (by simp))
  | _ => exact absurd (show false = true from hs) Bool.false_ne_true
 | str i =>
  obtain ⟨t, rfl⟩ := rx
  cases y with
  | non => cases ry; exact PySem.EqNone.eq_str_none (fin_bl I q (by simp))
  | bl j => cases ry; exact PySem.EqMixed.eq_str_bool (fin_bl I q (by simp))
  | int j => obtain ⟨t', rfl⟩ := ry; exact PySem.EqMixed.eq_str_int (fin_bl I q (by simp))
  | str j => obtain ⟨t', rfl⟩ := ry; exact eq_str (fin_bl I q dec_str)
  | _ => exact absurd (show false = true from hs) Bool.false_ne_true
 | byt i =>
  obtain ⟨t, rfl⟩ := rx
  cases y with
  | byt j => obtain ⟨t', rfl⟩ := ry; exact PySem.W.eq_bytes (fin_bl I q dec_byt)
  | _ => exact absurd (show false = true from hs) Bool.false_ne_true
 | _ => cases y <;> exact absurd (show false = true from hs) Bool.false_ne_true
theorem op_ne : OpR X (compareOp .NotEq) rNe := by
 intro pins s σ H x y v u Q I rx ry h
 obtain ⟨hs, q⟩ := h
 cases x with
 | non =>
  cases rx
  cases y with
  | non => cases ry; exact PySem.EqNone.ne_none_none (fin_bl I q (by simp))
  | bl j => cases ry; exact PySem.EqNone.ne_none_bool (fin_bl I q (by simp))
  | int j => obtain ⟨t', rfl⟩ := ry; exact PySem.EqNone.ne_none_int (fin_bl I q (by simp))
  | str j => obtain ⟨t', rfl⟩ := ry; exact PySem.EqNone.ne_none_str (fin_bl I q (by simp))
  | _ => exact absurd (show false = true from hs) Bool.false_ne_true
 | bl i =>
  cases rx
  cases y with
  | non => cases ry; exact PySem.EqNone.ne_bool_none (fin_bl I q (by simp))
  | bl j => cases ry; exact ne_bool (fin_bl I q (congrArg not dec_bl))
  | str j => obtain ⟨t', rfl⟩ := ry; exact PySem.EqMixed.ne_bool_str (fin_bl I q (by simp))
  | _ => exact absurd (show false = true from hs) Bool.false_ne_true
 | int i =>
  obtain ⟨t, rfl⟩ := rx
  cases y with
  | non => cases ry; exact PySem.EqNone.ne_int_none (fin_bl I q (by simp))
  | int j => obtain ⟨t', rfl⟩ := ry; exact ne_int (fin_bl I q (congrArg not dec_int))
  | str j => obtain ⟨t', rfl⟩ := ry; exact PySem.EqMixed.ne_int_str (fin_bl I q (by simp))
  | _ => exact absurd (show false = true from hs) Bool.false_ne_true
 | str i =>
  obtain ⟨t, rfl⟩ := rx
  cases y with
  | non => cases ry; exact PySem.EqNone.ne_str_none (fin_bl I q (by simp))
  | bl j => cases ry; exact PySem.EqMixed.ne_str_bool (fin_bl I q (by simp))
  | int j => obtain ⟨t', rfl⟩ := ry; exact PySem.EqMixed.ne_str_int (fin_bl I q (by simp))
  | str j => obtain ⟨t', rfl⟩ := ry; exact ne_str (fin_bl I q (congrArg not dec_str))
  | _ => exact absurd (show false = true from hs) Bool.false_ne_true
 | byt i =>
  obtain ⟨t, rfl⟩ := rx
  cases y with
  | byt j => obtain ⟨t', rfl⟩ := ry; exact PySem.W.ne_bytes (fin_bl I q (congrArg not dec_byt))
  | _ => exact absurd (show false = true from hs) Bool.false_ne_true
 | _ => cases y <;> exact absurd (show false = true from hs) Bool.false_ne_true
theorem op_lt : OpR X (compareOp .Lt) (rI0 fun i j => .bl (decide (i < j))) := opB0 fun _ _ _ _ _ _ _ q => lt_int q
theorem op_le : OpR X (compareOp .LtE) (rI0 fun i j => .bl (decide (i ≤ j))) := opB0 fun _ _ _ _ _ _ _ q => le_int q
theorem op_gt : OpR X (compareOp .Gt) (rI0 fun i j => .bl (decide (j < i))) := opB0 fun _ _ _ _ _ _ _ q => gt_int q
theorem op_in_str : OpR X (compareOp .In) (fun x y H Q => ∃ i j, x = .str i ∧ y = .str j ∧ Q (.bl (!(Builtin.Str.occurrences j i 0 j.length 1).isEmpty)) H) := by
 intro pins s σ H x y v u Q I rx ry h
 obtain ⟨i, j, rfl, rfl, q⟩ := h
 obtain ⟨t, rfl⟩ := rx
 obtain ⟨t', rfl⟩ := ry
 exact in_str (fin_bl I q rfl)
theorem nomark (b : Expr) {op : CmpOp} (h : op ≠ .In := by decide) (h2 : op ≠ .NotIn := by decide) : behindInMarks op b = false := by
 have e1 : (op == CmpOp.In) = false := by cases op <;> first | rfl | exact absurd rfl h
 have e2 : (op == CmpOp.NotIn) = false := by cases op <;> first | rfl | exact absurd rfl h2
 cases b <;> simp [behindInMarks, e1, e2]
theorem pe_cmpR {op : CmpOp} {r : R2} (ho : OpR X (compareOp op) r) (ha : PE X a ta) (hb : PE X b tb) (hm : behindInMarks op b = false) : PE X (.Compare a [op] [b] pos) (tOp r ta tb) := by
 intro pins s σ H Q I h
 exact wpAny_Compare1 (binT ha hb I h fun v u s2 x y H2 I2 rx ry q => ho pins s2 σ H2 x y v u Q I2 rx ry q) hm
def tTest (t : TE) : TT := fun σ H Q => t σ H fun x H' => ∃ k, x = .bl k ∧ Q k H'
theorem pt_cmpR {op : CmpOp} {r : R2} (ho : OpR X (compareOp op) r) (ha : PE X a ta) (hb : PE X b tb) (hm : behindInMarks op b = false) : PT X (.Compare a [op] [b] pos) (tTest (tOp r ta tb)) := by
 intro pins s σ H Q I h
 refine wpAny_isTrue_Compare1 (thn (ha pins s σ H _ I h) fun v s1 ⟨x, H1, I1, r1, q1⟩ => thn (hb pins s1 σ H1 _ I1 q1) fun u s2 ⟨y, H2, I2, r2, q2⟩ =>
  thn (ho pins s2 σ H2 x y v u _ I2 r1 r2 q2) fun c s3 ⟨z, H3, I3, r3, k, e, q3⟩ => ?_) hm
 subst e
 cases r3
 exact wpAny_truthy_bool ⟨H3, I3, q3⟩
def tChain (r r' : R2) (ta tb tc : TE) : TE := fun σ H Q => ta σ H fun x H1 => tb σ H1 fun y H2 => r x y H2 fun z H3 => ∃ k, z = .bl k ∧
 (if k = true then tc σ H3 fun w' H4 => r' y w' H4 Q else Q (.bl false) H3)
theorem pt_chain {op op' : CmpOp} {r r' : R2} (ho : OpR X (compareOp op) r) (ho' : OpR X (compareOp op') r') (ha : PE X a ta) (hb : PE X b tb) (hc : PE X c tc)
  (hm : lastMarks [op, op'] [b, c] = false := by with_unfolding_all rfl) : PT X (.Compare a [op, op'] [b, c] pos) (tTest (tChain r r' ta tb tc)) := by
 intro pins s σ H Q I h
 refine isTrue_chain (thn (ha pins s σ H _ I h) fun v s1 ⟨x, H1, I1, r1, q1⟩ => test_link (thn (hb pins s1 σ H1 _ I1 q1) fun u s2 ⟨y, H2, I2, r2, q2⟩ =>
  thn (ho pins s2 σ H2 x y v u _ I2 r1 r2 q2) fun d s3 ⟨z, H3, I3, r3, k, e, q3⟩ => ?_)) hm
 subst e
 cases r3
 refine wpAny_truthy_bool ?_
 cases k with
 | false =>
  obtain ⟨k', e', q'⟩ := q3
  cases e'
  exact ite_ff ⟨H3, I3, q'⟩
 | true =>
  refine ite_tt (test_last (thn (hc pins s3 σ H3 _ I3 q3) fun w' s4 ⟨z', H4, I4, r4, q4⟩ => thn (ho' pins s4 σ H4 y z' u w' _ I4 r2 r4 q4) fun d' s5 ⟨z2, H5, I5, r5, k2, e2, q5⟩ => ?_))
  subst e2
  cases r5
  exact wpAny_truthy_bool ⟨H5, I5, q5⟩
theorem line63 : (sizeLine : Nat) < 2 ^ 63 := by rw [sizeLine_eq]; decide
theorem op_add_str : OpR X (binaryOp .Add) (fun x y H Q => ∃ i j, x = .str i ∧ y = .str j ∧ i.length + j.length ≤ sizeLine ∧ Q (.str (i ++ j)) H) := by
 intro pins s σ H x y v u Q I rx ry h
 obtain ⟨i, j, rfl, rfl, hz, q⟩ := h
 obtain ⟨t, rfl⟩ := rx
 obtain ⟨t', rfl⟩ := ry
 exact add_str (fun t' tk => ⟨.str (i ++ j), H, I.tok _, ⟨_, rfl⟩, q⟩) hz
theorem vals1 {x : V} {us : List Value} (r : Vals [x] us) : ∃ u, us = [u] ∧ RelV x u := by
 cases r with
 | cons r1 r2 => cases r2; exact ⟨_, rfl, r1⟩
theorem vals2 {x y : V} {us : List Value} (r : Vals [x, y] us) : ∃ u w', us = [u, w'] ∧ RelV x u ∧ RelV y w' := by
 cases r with
 | cons r1 r2 =>
  cases r2 with
  | cons r3 r4 => cases r4; exact ⟨_, _, rfl, r1, r3⟩
theorem call_abs : CallR X (.builtin "abs") (fun xs H Q => ∃ i, xs = [.int i] ∧ Q (.int (if i < 0 then -i else i)) H) := by
 intro pins s σ H xs us Q I r h
 obtain ⟨i, rfl, q⟩ := h
 obtain ⟨u, rfl, t, rfl⟩ := vals1 r
 exact call_abs_int fun u tk => ⟨.int (if i < 0 then -i else i), H, I.tok _, ⟨_, rfl⟩, q⟩
theorem call_max2 (hc : X.calm = true) : CallR X (.builtin "max") (fun xs H Q => ∃ i j, xs = [.int i, .int j] ∧ Q (.int (if j > i then j else i)) H) := by
 intro pins s σ H xs us Q I r h
 obtain ⟨i, j, rfl, q⟩ := h
 obtain ⟨u, w', rfl, ⟨t, rfl⟩, ⟨t', rfl⟩⟩ := vals2 r
 refine max_two_ints (I.ok.hd hc) fun h' tk k => ⟨_, H, I.kept k, ?_, q⟩
 by_cases hj : j > i
 ·rw [if_pos hj, if_pos hj]; exact ⟨_, rfl⟩
 ·rw [if_neg hj, if_neg hj]; exact ⟨_, rfl⟩
theorem call_int1 : CallR X (.type "int") (fun xs H Q => (∃ i, xs = [.int i] ∧ Q (.int i) H) ∨ ∃ k, xs = [.bl k] ∧ Q (.int (if k then 1 else 0)) H) := by
 intro pins s σ H xs us Q I r h
 rcases h with ⟨i, rfl, q⟩ | ⟨k, rfl, q⟩
 ·obtain ⟨u, rfl, t, rfl⟩ := vals1 r
  exact call_int_int ⟨.int i, H, I, ⟨_, rfl⟩, q⟩
 ·obtain ⟨u, rfl, r1⟩ := vals1 r
  cases r1
  exact call_int_bool ⟨.int (if k then 1 else 0), H, I.tok _, ⟨_, rfl⟩, q⟩
theorem call_divmod : CallR X (.builtin "divmod") (fun xs H Q => ∃ i j, xs = [.int i, .int j] ∧ CDiv i j ∧ ∀ p, H p = none → Q (.ref p) (upd H p (.tup [.int (i / j), .int (i % j)]))) := by
 intro pins s σ H xs us Q I r h
 obtain ⟨i, j, rfl, ⟨h1, h2⟩, q⟩ := h
 obtain ⟨u, w', rfl, ⟨t, rfl⟩, ⟨t', rfl⟩⟩ := vals2 r
 refine divmod_int (by omega) ?_ (.inl (PyProof.noPylong_small (by omega)))
 rw [Int.fdiv_eq_ediv_of_nonneg i (by omega), Int.fmod_eq_emod_of_nonneg i (by omega)]
 have hn : H s.heap.objs.size = none := I.hok.fresh (Nat.le_refl _)
 refine ⟨.ref s.heap.objs.size, _, ?_, rfl, q _ hn⟩
 refine I.laid (fun b o e => Heap.get?_push_of_some _ e) (Nat.le_refl _) ⟨by simp only [List.length_cons, List.length_nil]; rw [sizeLine_eq]; decide, [.int (i / j) s.toks, .int (i % j) (s.toks + 1)], .cons ⟨_, rfl⟩ (.cons ⟨_, rfl⟩ .nil), ?_⟩
 exact ⟨_, Heap.get?_push_size s.heap rfl, rfl, 0, rfl⟩
end
end L2
namespace L2
open PySem PySem.Spec PyProof.Rows
structure ObjM (h : Heap) (x dx C : Addr) (mA : Str → Option Value) : Prop where
 obj : h.get? x = some (PySem.W.instObj C dx)
 ns : h.Ns1 dx mA
 ne : dx ≠ x
theorem lookIn_ns {h : Heap} {dx : Addr} {mA : Str → Option Value} (n : h.Ns1 dx mA) : ∃ od, h.get? dx = some od ∧ ∀ name, PySem.W.lookIn name od = some (mA name) := by
 obtain ⟨o, es, ep, ho, hd, hk, _, hm⟩ := n
 refine ⟨o, ho, fun name => ?_⟩
 have e := hm name
 unfold nsFind findBy at e
 rw [← Array.find?_toList] at e
 unfold PySem.W.lookIn
 rw [hd]
 dsimp only
 split
 ·rename_i y q
  rw [q] at e
  exact congrArg some e
 ·rename_i q
  rw [q] at e
  have a : es.toList.any (·.refKey) = false := by
   rw [List.any_eq_false]
   intro y hy
   obtain ⟨z, t, hkey⟩ := hk y (Array.mem_toList_iff.mp hy)
   simp [DictEntry.refKey, hkey]
  have a' : ¬ es.toList.any (·.refKey) = true := by rw [a]; exact Bool.false_ne_true
  rw [if_neg a']
  exact congrArg some e
theorem ObjM.look {h : Heap} {x dx C : Addr} {mA : Str → Option Value} (I : ObjM h x dx C mA) : ∃ od, PySem.W.InstAt h x (PySem.W.instObj C dx) C (some od) ∧ ∀ name, PySem.W.lookIn name od = some (mA name) :=
 let ⟨od, ho, hl⟩ := lookIn_ns I.ns
 ⟨od, ⟨I.obj, rfl, rfl, ho⟩, hl⟩
section
variable {prog : Program} {w : World} {A : Around} {E : Value → Shared → Prop} {s : Shared} {K : PySem.W.Frag} {x dx C f : Addr} {mA : Str → Option Value} {name : Str} {v : Value}
theorem get_map {expr : Bool} {Q : Value → Shared → Prop} (X : K.In s.heap) (I : ObjM s.heap x dx C mA) (hg : PySem.W.plainGet K C name = true) (hh : PySem.W.hasDictIn K C = true)
  (ha : PySem.W.findIn K (.ref C) name = some none) (hv : mA name = some v) (hv' : PySem.W.handedIn v = true) (h : Q v { s with toks := s.toks + 1 }) :
  wpAny (model prog w) A (getAttr (.ref x) name expr) Q E s := by
 obtain ⟨od, J, hl⟩ := I.look
 exact PySem.W.get_value X J (PySem.W.plainGet_of hg).1 (PySem.W.findObj_own hh ha rfl (by rw [hl, hv])) hv' h
theorem set_map {ns : List Str} {Q : Unit → Shared → Prop} (X : K.In s.heap) (I : ObjM s.heap x dx C mA)
  (hs : PySem.W.findIn K (.ref C) "__setattr__" = some (some (.builtin "object.__setattr__"))) (hp : PySem.W.plainOver K C = true) (ht : PySem.W.takerIn K C name = some none) (hh : PySem.W.hasDictIn K C = true)
  (hw : PySem.Within mA ns) (hsz : ns.length ≤ sizeLine)
  (h : ∀ h', ObjM h' x dx C (fun y => if y = name then some v else mA y) → Heap.SameBut dx s.heap h' → Q () { s with heap := h', toks := s.toks + 2 }) :
  wpAny (model prog w) A (setAttr (.ref x) name v) Q E s := by
 obtain ⟨od, J, hl⟩ := I.look
 refine PySem.W.set_plain X J hs (PySem.W.osa_open (s := { s with toks := s.toks + 1 }) (r := none) X J hp ht fun b => ?_)
 obtain ⟨cd, hc, hd'⟩ := PySem.W.any_some hh
 have hx : s.heap.get? x = some ⟨.ref C, some dx, .plain, #[]⟩ := I.obj
 refine wpAny_bind (wpAny_pure (wpAny_bind (wpAny_bind (wpAny_loadPart hx (wpAny_bind (PySem.W.Looks.here (s := { s with toks := s.toks + 1 }) (PySem.W.looks_clsIn X hc) ?_))))))
 rw [hd']
 refine wpAny_pure (a := some dx) (wpAny_bind (wpAny_pure (wpAny_bind ?_)))
 refine wpAny_nsSet1 (s := { s with toks := s.toks + 1 }) I.ns fun h' hn2 hs2 => ?_
 obtain ⟨oD, esD, epD, hoD, hdD, hcD⟩ := hn2.count (PySem.Within.cons name v hw)
 refine wpAny_bind (wpAny_lookBehind hoD (by rw [hdD]; exact pastItsLine_dict (Nat.le_trans hcD (by rw [List.length_cons]; omega))) ?_)
 exact wpAny_pure (h _ ⟨(hs2.2 _ (Ne.symm I.ne)).trans I.obj, hn2, I.ne⟩ hs2)
theorem make_map {R : Result → Shared → Prop} {vs : List Value} {kw : List (Str × Value)} (X : K.In s.heap) (hm : PySem.W.makesIn K C = true)
  (hi : PySem.W.findIn K (.ref C) "__init__" = some (some (.ref f))) (hf : PySem.W.typeIn K (.ref f) = some (.type "function"))
  (h : codeAny (model prog w) (A.under (.builtin "type.__call__" ⟨.ref C :: vs, kw⟩)) (.call (.ref f) ⟨.ref (s.heap.objs.size + 1) :: vs, kw⟩) (PySem.W.InitBack (s.heap.objs.size + 1) R)
   { s with heap := (s.heap.push PySem.W.emptyDict).push (PySem.W.instObj C s.heap.objs.size) }) :
  codeAny (model prog w) A (.call (.ref C) ⟨vs, kw⟩) R s := by
 obtain ⟨hh, g, d, t, os⟩ := s
 exact PySem.W.make_core (PySem.W.makes_of X hm) (PySem.W.looks_findIn X hi) (fun self => PySem.W.bind_fn X self hf) (.inl rfl) h
end
def putF (f : Str) (v : V) : List (Str × V) → List (Str × V)
 | [] => [(f, v)]
 | (g, x) :: r => if g = f then (g, v) :: r else (g, x) :: putF f v r
theorem lookup_putF (f g : Str) (v : V) : ∀ fs : List (Str × V), (putF f v fs).lookup g = if g = f then some v else fs.lookup g
 | [] => by
  show List.lookup g [(f, v)] = _
  by_cases h : g = f
  ·have hb : (g == f) = true := beq_iff_eq.mpr h
   simp only [List.lookup, hb, if_pos h]
  ·have hb : (g == f) = false := beq_eq_false_iff_ne.mpr h
   simp only [List.lookup, hb, if_neg h]
 | (k, x) :: r => by
  have ih := lookup_putF f g v r
  rw [show putF f v ((k, x) :: r) = (if k = f then (k, v) :: r else (k, x) :: putF f v r) from rfl]
  by_cases hk : k = f
  ·rw [if_pos hk]
   by_cases h : g = k
   ·have hb : (g == k) = true := beq_iff_eq.mpr h
    simp only [List.lookup, hb, if_pos (h.trans hk)]
   ·have hb : (g == k) = false := beq_eq_false_iff_ne.mpr h
    simp only [List.lookup, hb, if_neg (fun e : g = f => h (e.trans hk.symm))]
  ·rw [if_neg hk]
   by_cases h : g = k
   ·have hb : (g == k) = true := beq_iff_eq.mpr h
    simp only [List.lookup, hb, if_neg (fun e : g = f => hk (h.symm.trans e))]
   ·have hb : (g == k) = false := beq_eq_false_iff_ne.mpr h
    simp only [List.lookup, hb]
    exact ih
theorem keys_putF (f : Str) (v : V) : ∀ fs : List (Str × V), f ∈ (putF f v fs).map (·.1) ∧ ∀ g, g ∈ fs.map (·.1) → g ∈ (putF f v fs).map (·.1)
 | [] => ⟨by simp [putF], fun g h => by simp at h⟩
 | (k, x) :: r => by
  obtain ⟨i1, i2⟩ := keys_putF f v r
  rw [show putF f v ((k, x) :: r) = (if k = f then (k, v) :: r else (k, x) :: putF f v r) from rfl]
  by_cases hk : k = f
  ·rw [if_pos hk]
   subst hk
   exact ⟨by simp, fun g h => by simpa using h⟩
  ·rw [if_neg hk]
   refine ⟨?_, fun g h => ?_⟩
   ·rw [List.map_cons]
    exact List.mem_cons_of_mem _ i1
   ·rw [List.map_cons] at h ⊢
    rcases List.mem_cons.mp h with e | e
    ·exact List.mem_cons.mpr (.inl e)
    ·exact List.mem_cons_of_mem _ (i2 g e)
theorem length_putF (f : Str) (v : V) : ∀ fs : List (Str × V), (putF f v fs).length ≤ fs.length + 1
 | [] => by simp [putF]
 | (k, x) :: r => by
  have ih := length_putF f v r
  rw [show putF f v ((k, x) :: r) = (if k = f then (k, v) :: r else (k, x) :: putF f v r) from rfl]
  by_cases hk : k = f
  ·rw [if_pos hk, List.length_cons, List.length_cons]; omega
  ·rw [if_neg hk, List.length_cons, List.length_cons]; omega
theorem RelO.some_of {v : V} {o : Option Value} (r : RelO (some v) o) : ∃ u, o = some u ∧ RelV v u := by
 cases o with
 | none => exact (show False from r).elim
 | some u => exact ⟨u, rfl, r⟩
theorem handed_of {v : V} {u : Value} (r : RelV v u) : PySem.W.handedIn u = true := by
 cases v with
 | non => cases (show u = Value.none from r); rfl
 | bl b => cases (show u = Value.bool b from r); rfl
 | int i => obtain ⟨t, e⟩ := (show ∃ t, u = Value.int i t from r); cases e; rfl
 | str x => obtain ⟨t, e⟩ := (show ∃ t, u = Value.str x t from r); cases e; rfl
 | byt b => obtain ⟨t, e⟩ := (show ∃ t, u = Value.bytes b t from r); cases e; rfl
 | flt b => obtain ⟨t, e⟩ := (show ∃ t, u = Value.float b t from r); cases e; rfl
 | ref a => cases (show u = Value.ref a from r); rfl
 | ty n => cases (show u = Value.type n from r); rfl
section
variable {P : Program} {w : World} {H H' : Hp} {h h' : Heap} {a C dx : Addr} {fs fs' : List (Str × V)}
theorem ins_get (hok : HOk P w H h) (e : H a = some (.ins C dx fs)) : ∃ mA, ObjM h a dx C mA ∧ (∀ f, RelO (fs.lookup f) (mA f)) ∧ PySem.Within mA (fs.map (·.1)) ∧ fs.length ≤ 1000 ∧ H dx = some (.own a) := by
 obtain ⟨d, z, ne, ob, mA, n, r, q⟩ := (show ObjOk P w H h a (.ins C dx fs) from hok a _ e)
 exact ⟨mA, ⟨ob, n, ne⟩, r, q, z, d⟩
end
structure Cls (K : PySem.W.Frag) (C : Addr) : Prop where
 pg : PySem.W.plainGet K C Str.empty = true
 hd : PySem.W.hasDictIn K C = true
 po : PySem.W.plainOver K C = true
 sa : PySem.W.findIn K (.ref C) "__setattr__" = some (some (.builtin "object.__setattr__"))
theorem Cls.get {K : PySem.W.Frag} {C : Addr} (c : Cls K C) (f : Str) : PySem.W.plainGet K C f = true := c.pg
def NoAttr (K : PySem.W.Frag) (C : Addr) (f : Str) : Prop := PySem.W.findIn K (.ref C) f = some none
theorem NoAttr.taker {K : PySem.W.Frag} {C : Addr} {f : Str} (n : NoAttr K C f) : PySem.W.takerIn K C f = some none := by
 unfold PySem.W.takerIn
 rw [show PySem.W.findIn K (.ref C) f = some none from n]
 rfl
structure Con (K : PySem.W.Frag) (C : Addr) (f : Str) (v : V) (u : Value) : Prop where
 at_ : PySem.W.findIn K (.ref C) f = some (some u)
 rel : RelV v u
 get : PySem.W.specialIn K u "__get__" = some none
 cp : PySem.W.copiedNames.contains f = false
structure Meth (K : PySem.W.Frag) (C : Addr) (m : Str) (f : Addr) : Prop where
 at_ : PySem.W.findIn K (.ref C) m = some (some (.ref f))
 fn : PySem.W.isFn K (.ref f) = true
 kp : PySem.W.keepIn K (.ref f) = true
section
variable {X : Cx} {pins : List (Addr × Obj)} {σ : St} {H : Hp} {s : Shared} {a C dx : Addr} {fs : List (Str × V)} {f : Str} {v : V} {A : Around} {E : Value → Shared → Prop}
theorem getattr_ok {b : Bool} {Q : Value → Shared → Prop} (I : Inv X pins σ H s) (e : H a = some (.ins C dx fs)) (c : Cls X.K C) (n : NoAttr X.K C f) (l : fs.lookup f = some v)
  (h : ∀ u s', Inv X pins σ H s' → RelV v u → Q u s') : wpAny (model X.prog X.w) A (getAttr (.ref a) f b) Q E s := by
 obtain ⟨mA, O, r, _, _, _⟩ := ins_get I.hok e
 obtain ⟨u, hu, ru⟩ := RelO.some_of (v := v) (o := mA f) (by rw [← l]; exact r f)
 exact get_map I.kIn O (c.get f) c.hd n hu (handed_of ru) (h u _ (I.tok _) ru)
theorem setattr_ok {y : V} {u : Value} {Q : Unit → Shared → Prop} (I : Inv X pins σ H s) (e : H a = some (.ins C dx fs)) (c : Cls X.K C) (n : NoAttr X.K C f) (hl : fs.length < 1000) (ry : RelV y u)
  (h : ∀ s', Inv X pins σ (upd H a (.ins C dx (putF f y fs))) s' → Q () s') : wpAny (model X.prog X.w) A (setAttr (.ref a) f u) Q E s := by
 obtain ⟨mA, O, r, wi, _, ho⟩ := ins_get I.hok e
 have hz : (fs.map (·.1)).length ≤ sizeLine := by rw [List.length_map, sizeLine_eq]; omega
 refine set_map I.kIn O c.sa c.po n.taker c.hd wi hz fun h' O' sb => h _ ?_
 have hd : ∃ o, h'.get? dx = some o := let ⟨o, _, _, e', _⟩ := O'.ns; ⟨o, e'⟩
 refine I.write (x := a) (e := dx) (by rw [e]; exact True.intro) (.inr ho) (fun b q hb z => (sb.2 b hb).trans z) hd ?_
 refine ⟨by rw [upd_ne O.ne]; exact ho, ?_, O.ne, O'.obj, _, O'.ns, fun g => ?_, fun g hg => ?_⟩
 ·have := length_putF f y fs; omega
 ·show RelO ((putF f y fs).lookup g) (if g = f then some u else mA g)
  rw [lookup_putF]
  by_cases q : g = f
  ·rw [if_pos q, if_pos q]; exact ry
  ·rw [if_neg q, if_neg q]; exact r g
 ·by_cases q : g = f
  ·rw [q]; exact (keys_putF f y fs).1
  ·refine (keys_putF f y fs).2 g (wi g fun z => hg ?_)
   show (if g = f then some u else mA g) = none
   rw [if_neg q]; exact z
theorem Inv.made (I : Inv X pins σ H s) : Inv X pins σ (upd (upd H s.heap.objs.size (.own (s.heap.objs.size + 1))) (s.heap.objs.size + 1) (.ins C s.heap.objs.size []))
  { s with heap := (s.heap.push PySem.W.emptyDict).push (PySem.W.instObj C s.heap.objs.size) } := by
 have e1 : (s.heap.push PySem.W.emptyDict).get? s.heap.objs.size = some PySem.W.emptyDict := Heap.get?_push_size s.heap rfl
 have e2 : ((s.heap.push PySem.W.emptyDict).push (PySem.W.instObj C s.heap.objs.size)).get? (s.heap.objs.size + 1) = some (PySem.W.instObj C s.heap.objs.size) := by
  have := Heap.get?_push_size (s.heap.push PySem.W.emptyDict) (o := PySem.W.instObj C s.heap.objs.size) rfl
  rwa [Heap.size_push] at this
 have e3 : (s.heap.push PySem.W.emptyDict).Ns s.heap.objs.size (fun _ => none) := ⟨PySem.W.emptyDict, #[], _, e1, rfl, (fun e he => absurd he (by simp)), fun _ => rfl⟩
 have I1 := I.laid (a := s.heap.objs.size) (o := .own (s.heap.objs.size + 1)) (h' := s.heap.push PySem.W.emptyDict) (t' := s.toks) (fun b u q => Heap.get?_push_of_some _ q) (Nat.le_refl _) ⟨_, e1⟩
 refine I1.laid (a := s.heap.objs.size + 1) (o := .ins C s.heap.objs.size []) (t' := s.toks) (fun b u q => Heap.get?_push_of_some _ q) (Nat.le_of_eq (Heap.size_push _ _)) ?_
 have ne : s.heap.objs.size ≠ s.heap.objs.size + 1 := Nat.ne_of_lt (Nat.lt_succ_self _)
 refine ⟨by rw [upd_ne ne, upd_same], Nat.zero_le _, ne, e2, fun _ => none, (Heap.Ns1.of_empty e3).at fun o q => Heap.get?_push_of_some _ q, fun _ => True.intro, fun y hy => absurd rfl hy⟩
theorem attr_of {prog : Program} {w : World} {env : Env} {e : Expr} {f : Str} {pos : Pos} {s : Shared} {Q : Value → Shared → Prop} (hb : attributeBase e f env (eval e env) = eval e env)
  (h : wpAny (model prog w) A (eval e env) (fun o s₁ => wpAny (model prog w) A (getAttr o f true) Q E s₁) E s) : wpAny (model prog w) A (eval (.Attribute e f pos) env) Q E s :=
 Attribute_any_ h (by rw [arm_eval_Attribute, hb])
end
def tFld (K : PySem.W.Frag) (ta : TE) (f : Str) : TE := fun σ H Q => ta σ H fun x H1 => ∃ a C dx fs v, x = .ref a ∧ H1 a = some (.ins C dx fs) ∧ Cls K C ∧ NoAttr K C f ∧ fs.lookup f = some v ∧ Q v H1
def sFld (K : PySem.W.Frag) (ta tv : TE) (f : Str) : TS := fun D σ H => tv σ H fun y H1 => ta σ H1 fun x H2 => ∃ a C dx fs, x = .ref a ∧ H2 a = some (.ins C dx fs) ∧ Cls K C ∧ NoAttr K C f ∧ fs.length < 1000 ∧
 D.nx σ (upd H2 a (.ins C dx (putF f y fs)))
section
variable {X : Cx} {o e value : Expr} {f : Str} {pos pos' tpos : Pos} {ta tv : TE}
theorem pe_fld (he : PE X e ta) (hb : attributeBase e f X.env (eval e X.env) = eval e X.env) : PE X (.Attribute e f pos) (tFld X.K ta f) := by
 intro pins s σ H Q I h
 refine attr_of hb (thn (he pins s σ H _ I h) fun u s1 ⟨x, H1, I1, rx, a, C, dx, fs, v, ex, ea, c, n, l, q⟩ => ?_)
 subst ex
 obtain rfl : u = Value.ref a := rx
 exact getattr_ok I1 ea c n l fun u' s2 I2 ru => ⟨v, H1, I2, ru, q⟩
theorem ps_fld (ha : PE X o ta) (hv : PE X value tv) (hs : swapsWith value (some (.Attribute o f pos')) pos.line X.env = pure false) : PS X (.Assign [.Attribute o f pos'] value pos) (sFld X.K ta tv f) := by
 intro pins s σ H D I h
 refine plainObj_wpAny_Assign_Attribute (thn (hv pins s σ H _ I h) fun u s1 ⟨y, H1, I1, ry, q⟩ => thn (ha pins s1 σ H1 _ I1 q) fun ov s2 ⟨x, H2, I2, rx, a, C, dx, fs, ex, ea, c, n, l, q2⟩ => ?_) hs
 subst ex
 obtain rfl : ov = Value.ref a := rx
 exact setattr_ok I2 ea c n l ry fun s3 I3 => ⟨σ, _, I3, q2⟩
end
section
variable {X : Cx} {pins : List (Addr × Obj)} {σ : St} {H : Hp} {s : Shared} {A : Around} {E : Value → Shared → Prop} {Q : Value → Shared → Prop} {c : Value} {b : Bool}
inductive TyOf (K : PySem.W.Frag) (H : Hp) : V → Value → Prop where
 | non : TyOf K H .non (.type "NoneType")
 | bl (x : Bool) : TyOf K H (.bl x) (.type "bool")
 | int (i : Int) : TyOf K H (.int i) (.type "int")
 | str (x : Str) : TyOf K H (.str x) (.type "str")
 | flt (x : UInt64) : TyOf K H (.flt x) (.type "float")
 | lst {a : Addr} {xs : List V} (e : H a = some (.lst xs)) : TyOf K H (.ref a) (.type "list")
 | frz {a : Addr} {o : Obj} {xs : List V} (e : H a = some (.frz o (.lst xs))) : TyOf K H (.ref a) (.type "list")
 | tup {a : Addr} {xs : List V} (e : H a = some (.tup xs)) : TyOf K H (.ref a) (.type "tuple")
 | dK {a : Addr} {kvs : List (Key × V)} (e : H a = some (.dK kvs)) : TyOf K H (.ref a) (.type "dict")
 | dT {a : Addr} {kvs : List (List Key × V)} (e : H a = some (.dT kvs)) : TyOf K H (.ref a) (.type "dict")
 | ins {a C dx : Addr} {fs : List (Str × V)} (e : H a = some (.ins C dx fs)) (cl : Cls K C) (ha : PySem.W.findIn K (.ref C) "__class__" = some (some (.builtin "object.__class__")))
   (hn : PySem.W.specialIn K (.builtin "object.__class__") "__get__" = some (some (.builtin "getset_descriptor.__get__"))) (htk : PySem.W.takesIn K (.builtin "object.__class__") = some true)
   (hm : PySem.W.mroIn K C (.type "object") = some true) : TyOf K H (.ref a) (.ref C)
theorem isinst_ok {x : V} {u t : Value} (I : Inv X pins σ H s) (rx : RelV x u) (ty : TyOf X.K H x t) (e : PySem.W.kitOne X.K t c = some b) (h : ∀ tk, Q (.bool b) { s with toks := tk }) :
  wpAny (model X.prog X.w) A (call (.builtin "isinstance") [u, c]) Q E s := by
 cases ty with
 | non => cases (show u = Value.none from rx); exact PySem.W.kia_one PySem.W.kitx_none I.kIn True.intro e (fun z => nomatch z) h
 | bl y => cases (show u = Value.bool y from rx); exact PySem.W.kia_one PySem.W.kitx_bool I.kIn True.intro e (fun z => nomatch z) h
 | int i => obtain ⟨t, q⟩ := (show ∃ t, u = Value.int i t from rx); cases q; exact PySem.W.kia_one PySem.W.kitx_int I.kIn True.intro e (fun z => nomatch z) h
 | str y => obtain ⟨t, q⟩ := (show ∃ t, u = Value.str y t from rx); cases q; exact PySem.W.kia_one PySem.W.kitx_str I.kIn True.intro e (fun z => nomatch z) h
 | flt y => obtain ⟨t, q⟩ := (show ∃ t, u = Value.float y t from rx); cases q; exact PySem.W.kia_one PySem.W.kitx_float I.kIn True.intro e (fun z => nomatch z) h
 | @lst a xs ea =>
  cases (show u = Value.ref a from rx)
  obtain ⟨_, _, n, _, h1⟩ := (show ObjOk X.prog X.w H s.heap a (.lst xs) from I.hok a _ ea)
  exact PySem.W.kia_one PySem.W.kitx_list I.kIn ⟨_, h1, rfl⟩ e (fun z => nomatch z) h
 | @frz a ob xs ea =>
  cases (show u = Value.ref a from rx)
  obtain ⟨_, _, _, n, _, h1⟩ := (show ObjOk X.prog X.w H s.heap a (.frz ob (.lst xs)) from I.hok a _ ea)
  exact PySem.W.kia_one PySem.W.kitx_list I.kIn ⟨_, h1, rfl⟩ e (fun z => nomatch z) h
 | @tup a xs ea =>
  cases (show u = Value.ref a from rx)
  obtain ⟨_, _, _, p⟩ := (show ObjOk X.prog X.w H s.heap a (.tup xs) from I.hok a _ ea)
  obtain ⟨o, h1, h2, _⟩ := p
  exact PySem.W.kia_one PySem.W.kitx_tuple I.kIn ⟨o, h1, h2⟩ e (fun z => nomatch z) h
 | @dK a kvs ea =>
  cases (show u = Value.ref a from rx)
  obtain ⟨_, _, vs, _, p⟩ := (show ObjOk X.prog X.w H s.heap a (.dK kvs) from I.hok a _ ea)
  obtain ⟨o, es, ep, h1, h2, _⟩ := p
  exact PySem.W.kia_one PySem.W.kitx_dict I.kIn ⟨o, h1, h2.1⟩ e (fun z => nomatch z) h
 | @dT a kvs ea =>
  cases (show u = Value.ref a from rx)
  obtain ⟨_, _, xs, _, o, es, ep, h1, h2, _⟩ := (show ObjOk X.prog X.w H s.heap a (.dT kvs) from I.hok a _ ea)
  exact PySem.W.kia_one PySem.W.kitx_dict I.kIn ⟨o, h1, h2.1⟩ e (fun z => nomatch z) h
 | @ins a C dx fs ea cl ha hn htk hm =>
  cases (show u = Value.ref a from rx)
  obtain ⟨mA, O, _⟩ := ins_get I.hok ea
  obtain ⟨od, J, _⟩ := O.look
  exact PySem.W.kia_one (PySem.W.kitx_own (cl.get _) cl.hd ha hn htk hm) I.kIn J e (fun z => nomatch z) h
end
end L2
namespace L2
open PySem PySem.Spec PyProof.Rows
structure Room (k : Nat) (A : Around) : Prop where
 hd : A.handled = none
 gd : A.guards = some []
 dp : A.depth + 3 * k + 5 < recursionLimit
 un : A.units + 16 * k + 200 < cLine
theorem Room.mono {j k : Nat} {A : Around} (r : Room k A) (h : j ≤ k) : Room j A := ⟨r.hd, r.gd, by have := r.dp; omega, by have := r.un; omega⟩
theorem Room.deeper {k : Nat} {A : Around} (r : Room (k + 1) A) (env : Env) : Room k (A.deeper env) :=
 ⟨r.hd, r.gd, by have := r.dp; show A.depth + 1 + 3 * k + 5 < _; omega, by have := r.un; show A.units + 3 + 16 * k + 200 < _; omega⟩
theorem make_depth {A : Around} {C : Addr} {us : List Value} {kw : List (Str × Value)} : (A.under (.builtin "type.__call__" ⟨.ref C :: us, kw⟩)).depth = A.depth + 1 := by
 first | rfl | simp [Around.under, Code.weight, Code.isCreation, Code.isGuard, Code.isCaller, Code.frames, Code.isFrame, guardIds]
theorem make_units {A : Around} {C : Addr} {us : List Value} {kw : List (Str × Value)} : (A.under (.builtin "type.__call__" ⟨.ref C :: us, kw⟩)).units = A.units + 1 := by
 first | rfl | simp [Around.under, Code.cUnits, Code.frames, Code.isFrame]
theorem make_guards {A : Around} {C : Addr} {us : List Value} {kw : List (Str × Value)} : (A.under (.builtin "type.__call__" ⟨.ref C :: us, kw⟩)).guards = A.guards := by
  first
    | rfl
    | (show pushGuards (Code.guards _) A.guards = A.guards
       have e : Code.guards (.builtin "type.__call__" ⟨.ref C :: us, kw⟩) = [] := by first | rfl | (simp [Code.guards, Code.isGuard, guardIds])
       rw [e, pushGuards_eq]
       cases A.guards <;> simp)
theorem Room.make {k : Nat} {A : Around} (r : Room (k + 1) A) (C : Addr) (us : List Value) (kw : List (Str × Value)) : Room k (A.under (.builtin "type.__call__" ⟨.ref C :: us, kw⟩)) :=
 ⟨r.hd, by rw [make_guards]; exact r.gd, by have := r.dp; rw [make_depth]; omega, by have := r.un; rw [make_units]; omega⟩
theorem Room.depth {k : Nat} {A : Around} (r : Room k A) : A.depth < recursionLimit := by have := r.dp; omega
theorem Room.units {k : Nat} {A : Around} (r : Room k A) : A.units + 64 < cLine := by have := r.un; omega
theorem Room.units0 {k : Nat} {A : Around} (r : Room k A) : A.units < cLine := by have := r.un; omega
def tNil : TA := fun _ H Q => Q [] H
def tCons (ta : TE) (tr : TA) : TA := fun σ H Q => ta σ H fun x H1 => tr σ H1 fun xs H2 => Q (x :: xs) H2
section
variable {X : Cx} {e : Expr} {es : List Expr} {te : TE} {t : TA} {pos : Pos}
theorem pa_nil : PA X [] tNil := fun _ _ _ _ H Q I h => Calls.spliced_nil ⟨[], H, I, .nil, h⟩
theorem pa_cons (ha : PE X e te) (hr : PA X es t) (hs : starEach (e :: es) X.env = (false, eval e X.env) :: starEach es X.env := by rfl) : PA X (e :: es) (tCons te t) := by
 intro pos pins s σ H Q I h
 rw [hs]
 show wpAny _ _ (spliced ((false, eval e X.env) :: backTo pos (starEach es X.env))) _ _ s
 refine Calls.spliced_cons (thn (ha pins s σ H _ I h) fun u s1 ⟨x, H1, I1, r1, q1⟩ => ?_)
 exact thn (hr pos pins s1 σ H1 _ I1 q1) fun us s2 ⟨xs, H2, I2, r2, q2⟩ => ⟨x :: xs, H2, I2, .cons r1 r2, q2⟩
def tTup (t : TA) : TE := fun σ H Q => t σ H fun xs H1 => xs.length ≤ sizeLine ∧ ∀ p, H1 p = none → Q (.ref p) (upd H1 p (.tup xs))
def tLst (t : TA) : TE := fun σ H Q => t σ H fun xs H1 => xs.length ≤ sizeLine ∧ ∀ p, H1 p = none → Q (.ref p) (upd H1 p (.lst xs))
theorem pe_tup {x1} (h : PA X es t) : PE X (.Tuple es x1 pos) (tTup t) := by
 intro pins s σ H Q I hq
 refine wpAny_Tuple_spliced (thn (h pos pins s σ H _ I hq) fun us s1 ⟨xs, H1, I1, r, z, q⟩ => ⟨by rw [← r.length]; exact z, ?_⟩)
 have hf : H1 s1.heap.objs.size = none := I1.hok.fresh (Nat.le_refl _)
 refine ⟨.ref s1.heap.objs.size, upd H1 s1.heap.objs.size (.tup xs), I1.laid (t' := s1.toks) (fun b u e => Heap.get?_push_of_some _ e) (Nat.le_refl _) ?_, rfl, q _ hf⟩
 exact ⟨z, us, r, ⟨_, Heap.get?_push_size _ rfl, rfl, _, rfl⟩⟩
theorem pe_lst (h : PA X es t) : PE X (.List es pos) (tLst t) := by
 intro pins s σ H Q I hq
 refine wpAny_List_spliced (thn (h pos pins s σ H _ I hq) fun us s1 ⟨xs, H1, I1, r, z, q⟩ => ⟨by rw [← r.length]; exact z, ?_⟩)
 have hf : H1 s1.heap.objs.size = none := I1.hok.fresh (Nat.le_refl _)
 refine ⟨.ref s1.heap.objs.size, upd H1 s1.heap.objs.size (.lst xs), I1.laid (t' := s1.toks) (fun b u e => Heap.get?_push_of_some _ e) (Nat.le_refl _) ?_, rfl, q _ hf⟩
 exact ⟨z, us, 0, r, Heap.get?_push_size _ rfl⟩
end
abbrev Sp := List V → Hp → VK → XK → Prop
abbrev CXT := List Env → Hp → Shared → XK → Value → Shared → Prop
structure Env0 (P : Program) (w : World) (K : PySem.W.Frag) (mg : Str → Option Value) (base : Heap) (A : Around) (outer : List Env) (s : Shared) (H : Hp) : Prop where
 frames : A.frames = some outer
 mod : Mod K mg base
 bs : ∀ b o, base.get? b = some o → s.heap.get? b = some o ∧ H b = none
 bsz : base.objs.size ≤ s.heap.objs.size
 funs : s.heap.FunFrames base outer
 frf : ∀ b ∈ frs outer, H b = none
 hok : HOk P w H s.heap
 bare : AllBare s.gens
def CE (outer : List Env) (P : Program) (w : World) (H : Hp) (s : Shared) (Q : VK) (u : Value) (s' : Shared) : Prop :=
 ∃ v H', s'.os = s.os ∧ AllBare s'.gens ∧ Un (frs outer) [] H H' s.heap s'.heap ∧ HOk P w H' s'.heap ∧ RelV v u ∧ Q v H'
def CR (CX : CXT) (outer : List Env) (P : Program) (w : World) (H : Hp) (s : Shared) (Q : VK) (E : XK) (r : Result) (s' : Shared) : Prop :=
 match r with
 | .ok (.ret u) => CE outer P w H s Q u s'
 | .ok _ => False
 | .error e => CX outer H s E e s'
structure FnOk (P : Program) (w : World) (K : PySem.W.Frag) (mg : Str → Option Value) (base : Heap) (CX : CXT) (k : Nat) (f : Addr) (fd : FuncData) (ps : List Str) (sp : Sp) : Prop where
 len : ∀ vs H Q E, sp vs H Q E → vs.length = ps.length
 run : ∀ (A : Around) (outer : List Env) (s : Shared) (H : Hp) (args : Args) (us : List Value) (vs : List V) (Q : VK) (E : XK), Room k A → Env0 P w K mg base A outer s H → BindsTo s fd args (ps.zip us) → Vals vs us → sp vs H Q E →
  codeAny (model P w) A (.call (.ref f) args) (CR CX outer P w H s Q E) s
theorem Env0.make {P : Program} {w : World} {K : PySem.W.Frag} {mg : Str → Option Value} {base : Heap} {A : Around} {outer : List Env} {s : Shared} {H : Hp} (e : Env0 P w K mg base A outer s H) (C : Addr) (us : List Value) (kw : List (Str × Value)) :
  Env0 P w K mg base (A.under (.builtin "type.__call__" ⟨.ref C :: us, kw⟩)) outer s H := ⟨by first | exact e.frames | (simpa [Around.under, Code.envs, Code.isFrame, pushEnvs] using e.frames), e.mod, e.bs, e.bsz, e.funs, e.frf, e.hok, e.bare⟩
section
variable {X : Cx} {pins : List (Addr × Obj)} {σ : St} {H : Hp} {s s' : Shared}
theorem Inv.env0 (I : Inv X pins σ H s) : Env0 X.prog X.w X.K X.mg X.base X.A X.stack s H :=
 ⟨I.ok.frames, I.ok.mod, I.bs, Nat.le_trans I.ok.bsz I.sz, I.stack, I.stkFree, I.hok, I.bare⟩
theorem Inv.after {Q : VK} {u : Value} (I : Inv X pins σ H s) (h : CE X.stack X.prog X.w H s Q u s') : EP X pins σ Q u s' := by
 obtain ⟨v, H', os, bare, un, hok, r, q⟩ := h
 obtain ⟨hh, g, d, t, os'⟩ := s'
 obtain rfl : os' = s.os := os
 exact ⟨v, H', I.call (h' := hh) (g' := g) (d' := d) (t' := t) (ch := []) un hok bare (fun b z => absurd z (by simp)), r, q⟩
end
def tCall (sp : Sp) (dvs : List V) (E : XK) (t : TA) : TE := fun σ H Q => t σ H fun vs H1 => sp (vs ++ dvs) H1 Q E
def tMake (C : Addr) (sp : Sp) (dvs : List V) (E : XK) (t : TA) : TE := fun σ H Q => t σ H fun vs H1 => ∀ x dx, H1 x = none → H1 dx = none → dx ≠ x →
 sp (.ref x :: (vs ++ dvs)) (upd (upd H1 dx (.own x)) x (.ins C dx [])) (fun v H2 => v = .non ∧ Q (.ref x) H2) E
def Binds (K : PySem.W.Frag) (fd : FuncData) (ps : List Str) (ds : List Value) : Prop :=
 ∀ (s : Shared) (us : List Value), K.In s.heap → (us ++ ds).length = ps.length → BindsTo s fd ⟨us, []⟩ (ps.zip (us ++ ds))
theorem Binds.all {K : PySem.W.Frag} {fd : FuncData} {ps : List Str} (h : ∀ us : List Value, us.length = ps.length → bindArgs fd ⟨us, []⟩ = pure (ps.zip us)) : Binds K fd ps [] := fun s us _ hl => by
 rw [List.append_nil] at hl ⊢
 exact .of_eq (h us hl)
def Passes (CX : CXT) (X : Cx) (E : XK) : Prop := ∀ (pins : List (Addr × Obj)) (σ : St) (H : Hp) (s : Shared) (e : Value) (s' : Shared), Inv X pins σ H s → CX X.stack H s E e s' → X.xe e s'
section
variable {X : Cx} {CX : CXT} {k : Nat} {f C : Addr} {fd : FuncData} {ps : List Str} {sp : Sp} {dvs : List V} {ds : List Value} {E : XK} {x m : Str} {p pos apos : Pos} {e o : Expr} {es : List Expr} {ta : TE} {t : TA}
theorem run_fn {pins : List (Addr × Obj)} {σ : St} {H : Hp} {s : Shared} {Q : VK} {us : List Value} {vs : List V} (F : FnOk X.prog X.w X.K X.mg X.base CX k f fd ps sp) (hr : Room k X.A) (hb : Binds X.K fd ps ds) (hd : Vals dvs ds) (hx : Passes CX X E)
  (I : Inv X pins σ H s) (r : Vals vs us) (h : sp (vs ++ dvs) H Q E) : wpAny (model X.prog X.w) X.A (call (.ref f) us) (EP X pins σ Q) X.xe s := by
 have r2 : Vals (vs ++ dvs) (us ++ ds) := r.append hd
 have hl : (us ++ ds).length = ps.length := by rw [← r2.length]; exact F.len _ _ _ _ h
 refine wpAny_call (codeAny_mono (F.run X.A X.stack s H ⟨us, []⟩ (us ++ ds) (vs ++ dvs) Q E hr I.env0 (hb s us I.kIn hl) r2 h) fun r s' hq => ?_)
 cases r with
 | error e => exact hx pins σ H s e s' I hq
 | ok fl =>
  cases fl with
  | ret u => exact I.after hq
  | next => exact False.elim hq
  | brk => exact False.elim hq
  | cont => exact False.elim hq
theorem pe_call (F : FnOk X.prog X.w X.K X.mg X.base CX k f fd ps sp) (hr : Room k X.A) (hg : Gl X x) (hm : X.mg x = some (.ref f)) (hk : PySem.W.keepIn X.K (.ref f) = true) (hb : Binds X.K fd ps ds) (hd : Vals dvs ds) (hx : Passes CX X E)
  (ha : PA X (e :: es) t) (hdb : (x == ("__debug__" : Str)) = false := by decide) (he : starEach (e :: es) X.env = (false, eval e X.env) :: starEach es X.env := by rfl) (hpl : (backTo pos (starEach es X.env)).any (·.1) = false := by rfl) :
  PE X (.Call (.Name x p) (e :: es) [] pos) (tCall sp dvs E t) := by
 intro pins s σ H Q I h
 refine wpAny_Call_Name_kw (ld_glob I hg hm ?_ hdb)
 refine PySem.W.callWith_K (h₀ := X.base) I.ok.mod.kin hk (thn (ha pos pins s σ H _ I h) fun us s1 ⟨vs, H1, I1, r, q⟩ => ⟨I1.kIn, ?_⟩) he hpl
 exact run_fn F hr hb hd hx I1 r q
structure Mk (K : PySem.W.Frag) (C f : Addr) : Prop where
 makes : PySem.W.makesIn K C = true
 init : PySem.W.findIn K (.ref C) "__init__" = some (some (.ref f))
 fn : PySem.W.isFn K (.ref f) = true
 kp : PySem.W.keepIn K (.ref C) = true
theorem run_make {pins : List (Addr × Obj)} {σ : St} {H : Hp} {s : Shared} {Q : VK} {us : List Value} {vs : List V} (M : Mk X.K C f) (F : FnOk X.prog X.w X.K X.mg X.base CX k f fd ps sp) (hr : Room (k + 1) X.A) (hb : Binds X.K fd ps ds) (hd : Vals dvs ds)
  (hx : Passes CX X E) (I : Inv X pins σ H s) (r : Vals vs us)
  (h : ∀ x dx, H x = none → H dx = none → dx ≠ x → sp (.ref x :: (vs ++ dvs)) (upd (upd H dx (.own x)) x (.ins C dx [])) (fun v H2 => v = .non ∧ Q (.ref x) H2) E) :
  wpAny (model X.prog X.w) X.A (call (.ref C) us) (EP X pins σ Q) X.xe s := by
 have hq := h (s.heap.objs.size + 1) s.heap.objs.size (I.hok.fresh (Nat.le_succ _)) (I.hok.fresh (Nat.le_refl _)) (Nat.ne_of_lt (Nat.lt_succ_self _))
 have I2 := Inv.made (C := C) I
 have r2 : Vals (V.ref (s.heap.objs.size + 1) :: (vs ++ dvs)) (Value.ref (s.heap.objs.size + 1) :: (us ++ ds)) := .cons rfl (r.append hd)
 have hl : (Value.ref (s.heap.objs.size + 1) :: us ++ ds).length = ps.length := by
  have e := r2.length
  rw [F.len _ _ _ _ hq] at e
  exact e.symm
 refine wpAny_call (make_map (f := f) I.kIn M.makes M.init (beq_iff_eq.mp M.fn) (codeAny_mono (F.run _ X.stack _ _ ⟨Value.ref (s.heap.objs.size + 1) :: us, []⟩ (Value.ref (s.heap.objs.size + 1) :: (us ++ ds)) _ _ E (hr.make C us [])
  (I2.env0.make C us []) (hb _ (Value.ref (s.heap.objs.size + 1) :: us) I2.kIn hl) r2 hq) fun r s' hq' => ?_))
 cases r with
 | error e => exact hx pins σ _ _ e s' I2 hq'
 | ok fl =>
  cases fl with
  | ret u =>
   obtain ⟨v, H', I3, rv, ev, q3⟩ := I2.after hq'
   subst ev
   exact ⟨rv, ⟨V.ref (s.heap.objs.size + 1), H', I3, rfl, q3⟩⟩
  | next => exact False.elim hq'
  | brk => exact False.elim hq'
  | cont => exact False.elim hq'
theorem pe_make (M : Mk X.K C f) (F : FnOk X.prog X.w X.K X.mg X.base CX k f fd ps sp) (hr : Room (k + 1) X.A) (hg : Gl X x) (hm : X.mg x = some (.ref C)) (hb : Binds X.K fd ps ds) (hd : Vals dvs ds) (hx : Passes CX X E)
  (ha : PA X (e :: es) t) (hdb : (x == ("__debug__" : Str)) = false := by decide) (he : starEach (e :: es) X.env = (false, eval e X.env) :: starEach es X.env := by rfl) (hpl : (backTo pos (starEach es X.env)).any (·.1) = false := by rfl) :
  PE X (.Call (.Name x p) (e :: es) [] pos) (tMake C sp dvs E t) := by
 intro pins s σ H Q I h
 refine wpAny_Call_Name_kw (ld_glob I hg hm ?_ hdb)
 refine PySem.W.callWith_K (h₀ := X.base) I.ok.mod.kin M.kp (thn (ha pos pins s σ H _ I h) fun us s1 ⟨vs, H1, I1, r, q⟩ => ⟨I1.kIn, ?_⟩) he hpl
 exact run_make M F hr hb hd hx I1 r q
end
section
variable {X : Cx} {CX : CXT} {k : Nat} {f C : Addr} {fd : FuncData} {ps ks : List Str} {sp : Sp} {E : XK} {x m : Str} {p pos apos kpos : Pos} {e o : Expr} {es : List Expr} {kws : List Keyword} {te ta : TE} {t tk : TA} {nm : Option Str}
structure KBinds (K : PySem.W.Frag) (fd : FuncData) (ps ks : List Str) (g : List Value → List Value → List Value) (gV : List V → List V → List V) : Prop where
 to : ∀ (s : Shared) (us ws : List Value), K.In s.heap → (g us ws).length = ps.length → BindsTo s fd ⟨us, ks.zip ws⟩ (ps.zip (g us ws))
 rel : ∀ {vs : List V} {us : List Value} {zs : List V} {ws : List Value}, Vals vs us → Vals zs ws → Vals (gV vs zs) (g us ws)
variable {g : List Value → List Value → List Value} {gV : List V → List V → List V}
end
structure FnScope (N P : List Str) (sc : Scope) : Prop where
 kind : sc.kind = .function
 co : sc.isCoroutine = false
 gen : sc.isGenerator = false
 nd : N.Nodup
 pre : N.take P.length = P
 par : ∀ x ∈ P, sc.names.lookup x = some .local ∨ sc.names.lookup x = some .cell
 nofree : ∀ y ∈ sc.names, y.2 ≠ .free
theorem bindL_out {kindOf : Str → Option NameKind} {x : Str} : ∀ {binds : List (Str × Value)} {m : Str → Option Value}, (∀ v, (x, v) ∉ binds) → bindL kindOf binds m x = m x
 | [], _, _ => rfl
 | (n, v) :: r, m, h => by
  unfold bindL
  rw [bindL_out fun w hw => h w (List.mem_cons_of_mem _ hw)]
  split
  ·have : x ≠ n := by rintro rfl; exact h v List.mem_cons_self
   simp [this]
  ·rfl
theorem bindC_out {kindOf : Str → Option NameKind} {x : Str} : ∀ {binds : List (Str × Value)} {m : Str → Option Value}, (∀ v, (x, v) ∉ binds) → bindC kindOf binds m x = m x
 | [], _, _ => rfl
 | (n, v) :: r, m, h => by
  unfold bindC
  rw [bindC_out fun w hw => h w (List.mem_cons_of_mem _ hw)]
  split
  ·rfl
  ·have : x ≠ n := by rintro rfl; exact h v List.mem_cons_self
   simp [this]
theorem bindL_get {kindOf : Str → Option NameKind} {x : Str} {v : Value} : ∀ {P : List Str} {vs : List Value} {i : Nat} {m : Str → Option Value}, P.Nodup → P[i]? = some x → vs[i]? = some v → kindOf x = some .local →
  bindL kindOf (P.zip vs) m x = some v
 | [], _, _, _, _, h, _, _ => by simp at h
 | _ :: _, [], _, _, _, _, h, _ => by simp at h
 | p :: P, w :: vs, 0, m, nd, h1, h2, hk => by
  simp at h1 h2; subst h1; subst h2
  show bindL kindOf ((p, w) :: P.zip vs) m p = _
  unfold bindL
  rw [bindL_out fun v hv => (List.nodup_cons.mp nd).1 (List.of_mem_zip hv).1, if_pos hk]
  simp
 | p :: P, w :: vs, i + 1, m, nd, h1, h2, hk => by
  show bindL kindOf ((p, w) :: P.zip vs) m x = _
  unfold bindL
  exact bindL_get (i := i) (List.nodup_cons.mp nd).2 (by simpa using h1) (by simpa using h2) hk
theorem bindC_get {kindOf : Str → Option NameKind} {x : Str} {v : Value} : ∀ {P : List Str} {vs : List Value} {i : Nat} {m : Str → Option Value}, P.Nodup → P[i]? = some x → vs[i]? = some v → kindOf x ≠ some .local →
  bindC kindOf (P.zip vs) m x = some v
 | [], _, _, _, _, h, _, _ => by simp at h
 | _ :: _, [], _, _, _, _, h, _ => by simp at h
 | p :: P, w :: vs, 0, m, nd, h1, h2, hk => by
  simp at h1 h2; subst h1; subst h2
  show bindC kindOf ((p, w) :: P.zip vs) m p = _
  unfold bindC
  rw [bindC_out fun v hv => (List.nodup_cons.mp nd).1 (List.of_mem_zip hv).1, if_neg hk]
  simp
 | p :: P, w :: vs, i + 1, m, nd, h1, h2, hk => by
  show bindC kindOf ((p, w) :: P.zip vs) m x = _
  unfold bindC
  exact bindC_get (i := i) (List.nodup_cons.mp nd).2 (by simpa using h1) (by simpa using h2) hk
def start (N : List Str) (vs : List V) : St := vs.map some ++ List.replicate (N.length - vs.length) none
def cxOf (CX : CXT) (P : Program) (w : World) (K : PySem.W.Frag) (mg : Str → Option Value) (base : Heap) (N : List Str) (qual : Str) (scope : Scope) (f : Addr) (cd : Value) (A : Around) (outer : List Env) (s : Shared) (H : Hp) (E : XK) : Cx where
 prog := P
 w := w
 K := K
 mg := mg
 base := base
 A := A.deeper (envOfC qual scope s.heap.objs.size f cd)
 N := N
 s₀ := s
 H₀ := H
 env := envOfC qual scope s.heap.objs.size f cd
 outer := outer
 stack := envOfC qual scope s.heap.objs.size f cd :: outer
 ex := []
 calm := true
 fn := fun _ => true
 pn := []
 xe := fun e s' => wpAny (model P w) (A.deeper (envOfC qual scope s.heap.objs.size f cd)) (leaving (envOfC qual scope s.heap.objs.size f cd) e) (fun _ s'' => CX outer H s E e s'') (fun e' s'' => CX outer H s E e' s'') s'
theorem cell_has {sc : Scope} {n : Nat} {x : Str} (h : sc.names.lookup x = some .cell) : ∃ c, (cellsFrom n sc.names []).lookup x = some c := by
 have q := PySem.W.cellsFrom_some sc.names n [] (.inl h)
 exact Option.isSome_iff_exists.mp q
theorem inv_start {CX : CXT} {P : Program} {w : World} {K : PySem.W.Frag} {mg : Str → Option Value} {base : Heap} {N ps : List Str} {qual : Str} {scope : Scope} {f : Addr} {cd : Value} {A : Around} {outer : List Env} {s s1 : Shared} {H : Hp} {E : XK} {us : List Value} {vs : List V}
  (S : FnScope N ps scope) (hd : A.handled = none) (e0 : Env0 P w K mg base A outer s H) (hl : vs.length = ps.length) (r : Vals vs us)
  (x : InCallC s s.heap.objs.size (bindL (envOfC qual scope s.heap.objs.size f cd).kindOf (ps.zip us) fun _ => none) (cellsFrom (s.heap.objs.size + 1) scope.names []) (bindC (envOfC qual scope s.heap.objs.size f cd).kindOf (ps.zip us) fun _ => none) s1) :
  Inv (cxOf CX P w K mg base N qual scope f cd A outer s H E) [] (start N vs) H s1 := by
 have hpl : ps.length ≤ N.length := by have := congrArg List.length S.pre; rw [List.length_take] at this; omega
 obtain ⟨h1, tk, rfl, hk⟩ := x.done
 have noA : ∀ b : Addr, b ∉ (cxOf CX P w K mg base N qual scope f cd A outer s H E).ex := fun b z => absurd (show b ∈ ([] : List Addr) from z) (by simp)
 refine ⟨⟨e0.mod, S.kind, rfl, rfl, Nat.le_refl _, fun y z c h1 h2 => ?_, fun y hy => ?_, fun y c _ h => ?_, fun _ => hd, Around.frames_deeper e0.frames, .inr ⟨rfl, rfl⟩, fun b z => absurd z (noA b), e0.bs, e0.bsz, fun b _ _ => noA b, fun b z => absurd z (noA b), e0.funs, e0.frf⟩,
  rfl, e0.bare, Un.kept hk, ⟨_, x.toInCall.ns, fun i y v h1 h2 h3 => ?_⟩, fun y c h => ⟨_, x.cell y c h⟩, e0.hok.fresh (Nat.le_refl _), fun y c h => ?_, fun p hp => absurd (show p ∈ ([] : List (Addr × Obj)) from hp) (by simp), e0.hok.kept hk, ?_⟩
 ·exact name_of_addr x.apart (PySem.mem_of_lookup h1) (PySem.mem_of_lookup h2)
 ·have hy : scope.names.lookup y = some .cell ∨ scope.names.lookup y = some .free := hy
  rcases hy with hy | hy
  ·exact cell_has hy
  ·exact absurd rfl (S.nofree _ (PySem.mem_of_lookup hy))
 ·exact Nat.le_of_lt (x.above y c (PySem.mem_of_lookup h))
 ·have hi : i < vs.length := by
   unfold start at h2
   by_cases hi : i < vs.length
   ·exact hi
   ·rw [List.getElem?_append_right (by simpa using hi)] at h2
    rw [List.getElem?_replicate] at h2
    split at h2 <;> cases h2
  have ha : vs[i]? = some v := by
   unfold start at h2
   rw [List.getElem?_append_left (by simpa using hi), List.getElem?_map] at h2
   cases e : vs[i]? with
   | none => rw [e] at h2; cases h2
   | some a => rw [e] at h2; cases h2; rfl
  obtain ⟨u, hu, rv⟩ := r.get ha
  have hp : ps[i]? = some y := by
   rw [← S.pre, List.getElem?_take_of_lt (by omega)]; exact h1
  have ndP : ps.Nodup := by rw [← S.pre]; exact S.nd.sublist (List.take_sublist _ _)
  refine ⟨u, rv, ?_⟩
  rcases S.par y (List.mem_of_getElem? hp) with k | k
  ·exact .inl ⟨k, bindL_get ndP hp hu k⟩
  ·obtain ⟨c, e⟩ := cell_has (n := s.heap.objs.size + 1) k
   refine .inr ⟨.inl k, c, e, ?_⟩
   have q := x.cell y c e
   rw [bindC_get ndP hp hu (by show scope.names.lookup y ≠ _; rw [k]; decide)] at q
   exact q
 ·exact e0.hok.fresh (Nat.le_of_lt (x.above y c (PySem.mem_of_lookup h)))
 ·unfold start
  show _ = N.length
  rw [List.length_append, List.length_map, List.length_replicate]
  omega
theorem fn_of {CX : CXT} {P : Program} {w : World} {K : PySem.W.Frag} {mg : Str → Option Value} {base : Heap} {k : Nat} {f : Addr} {name qual : Str} {params : Arguments} {body : List Stmt} {scope : Scope} {dV kV doc pm cdv ct oc : Value} {an od : Option Addr}
  {osl : Array (Option Value)} {N ps : List Str} {sp : Sp} (lk : K.lookup f = some ⟨oc, od, .func (PySem.W.fnOf name qual params body scope dV kV doc pm an cdv ct), osl⟩) (hcd : PySem.W.codeIn K cdv qual = true) (S : FnScope N ps scope)
  (len : ∀ vs H Q E, sp vs H Q E → vs.length = ps.length)
  (hbody : ∀ (A : Around) (outer : List Env) (s : Shared) (H : Hp) (vs : List V) (Q : VK) (E : XK), Room k (A.deeper (envOfC qual scope s.heap.objs.size f cdv)) → sp vs H Q E →
   ∃ t, PSs (cxOf CX P w K mg base N qual scope f cdv A outer s H E) body t ∧ t { nx := fun _ H' => Q .non H', rt := Q } (start N vs) H) :
  FnOk P w K mg base CX (k + 1) f (PySem.W.fnOf name qual params body scope dV kV doc pm an cdv ct) ps sp := by
 refine ⟨len, fun A outer s H args us vs Q E hr e0 hb r hsp => ?_⟩
 have hl := len _ _ _ _ hsp
 have KX : K.In s.heap := e0.mod.kin.keeps fun b o e => (e0.bs b o e).1
 have lim : s.heap.NoLimit := e0.mod.nolimit.keeps fun b o e => (e0.bs b o e).1
 have hkind : ∀ y ∈ ps.zip us, scope.names.lookup y.1 = some .local ∨ (scope.names.lookup y.1 = some .cell ∧ ((cellsFrom (s.heap.objs.size + 1) scope.names []).lookup y.1).isSome = true) := fun ⟨n, v⟩ hy => by
  rcases S.par n (List.of_mem_zip hy).1 with q | q
  ·exact .inl q
  ·exact .inr ⟨q, PySem.W.cellsFrom_some _ _ _ (.inl q)⟩
 refine codeAny_call_function hr.depth (KX _ _ lk) rfl S.co S.gen rfl (PySem.W.codeRec_of KX hcd) (hb _ _ _ _ ?_)
 refine wpAny_newFunctionEnv_cells S.kind hkind fun env he s1 x => ?_
 subst he
 refine ⟨lim.keeps x.toInCall.keep, codeAny_func ?_⟩
 obtain ⟨t, ht, hq⟩ := hbody A outer s H vs Q E (hr.deeper _) hsp
 have I : Inv (cxOf CX P w K mg base N qual scope f cdv A outer s H E) [] (start N vs) H s1 := inv_start S hr.hd e0 hl r x
 refine wpAny_mono (ht [] s1 (start N vs) H _ I hq) (fun fl s' hs => ?_) fun e s' hs => hs
 have fin : ∀ {σ' : St} {H' : Hp} {v : V} {u : Value}, Inv (cxOf CX P w K mg base N qual scope f cdv A outer s H E) [] σ' H' s' → RelV v u → Q v H' → CE outer P w H s Q u s' :=
  fun {σ' H' v u} J rv q => ⟨v, H', J.os, J.bare, J.base, J.hok, rv, q⟩
 cases fl with
 | ret u =>
  obtain ⟨v, σ', H', J, rv, q⟩ := hs
  exact fin J rv q
 | next =>
  obtain ⟨σ', H', J, q⟩ := hs
  exact fin (v := V.non) (u := Value.none) J rfl q
 | brk =>
  obtain ⟨_, _, _, q⟩ := hs
  exact False.elim q
 | cont =>
  obtain ⟨_, _, _, q⟩ := hs
  exact False.elim q
end L2
namespace L2
open PySem PySem.Spec PyProof.Rows
section
variable {X : Cx} {x : Str} {p pos : Pos} {e : Expr} {es : List Expr} {t : TA} {id T : String} {r : List V → Hp → VK → Prop}
def tCB (r : List V → Hp → VK → Prop) (t : TA) : TE := fun σ H Q => t σ H fun vs H1 => r vs H1 Q
theorem pe_callB (hc : CallR X (.builtin id) r) (hg : Gl X x) (hm : X.mg x = none) (hv : bootBuiltins x = some (.builtin id)) (ha : PA X (e :: es) t) (hn : x ≠ "__name__" := by decide) (hdb : (x == ("__debug__" : Str)) = false := by decide)
  (he : starEach (e :: es) X.env = (false, eval e X.env) :: starEach es X.env := by rfl) (hpl : (backTo pos (starEach es X.env)).any (·.1) = false := by rfl) : PE X (.Call (.Name x p) (e :: es) [] pos) (tCB r t) := by
 intro pins s σ H Q I h
 refine wpAny_Call_Name_kw (ld_blt I hg hm hv ?_ hn hdb)
 exact PyProof.Rows.callWith_builtin1 (thn (ha pos pins s σ H _ I h) fun us s1 ⟨vs, H1, I1, r1, q1⟩ => hc pins s1 σ H1 vs us Q I1 r1 q1) he hpl
theorem pe_callTy (hc : CallR X (.type T) r) (hg : Gl X x) (hm : X.mg x = none) (hv : bootBuiltins x = some (.type T)) (ha : PA X (e :: es) t) (hn : x ≠ "__name__" := by decide) (hdb : (x == ("__debug__" : Str)) = false := by decide)
  (he : starEach (e :: es) X.env = (false, eval e X.env) :: starEach es X.env := by rfl) (hpl : (backTo pos (starEach es X.env)).any (·.1) = false := by rfl) : PE X (.Call (.Name x p) (e :: es) [] pos) (tCB r t) := by
 intro pins s σ H Q I h
 refine wpAny_Call_Name_kw (ld_blt I hg hm hv ?_ hn hdb)
 exact PyProof.Rows.callWith_type1 (thn (ha pos pins s σ H _ I h) fun us s1 ⟨vs, H1, I1, r1, q1⟩ => hc pins s1 σ H1 vs us Q I1 r1 q1) he hpl
end
end L2
namespace HT
open PySem PyProof.Rows
section
open PySem.SeqAt
open PySem.AutoSeq1 (wpAny_loadPart')
open PySem.MeetsSeq PySem.MeetsSeq2 PySem.MeetsSeq3
end
section
variable {prog : Program} {w : World} {A : Around} {E : Value → Shared → Prop} {s : Shared}
theorem cat_tup {t b : Addr} {vs ws : List Value} {Q : Value → Shared → Prop} (ht : IsTup s.heap t vs.toArray) (hb : IsTup s.heap b ws.toArray) (hv : vs ≠ [])
  (h1 : ws = [] → Q (.ref t) s) (h2 : ws ≠ [] → Q (.ref s.heap.objs.size) { s with heap := s.heap.push { cls := .type "tuple", data := .seq (vs ++ ws).toArray } })
  (hsz : vs.length + ws.length ≤ sizeLine) : wpAny (model prog w) A (binaryOp .Add (.ref t) (.ref b)) Q E s := by
 obtain ⟨⟨cls, dd, data, sl⟩, ho, hc, n, hd⟩ := id ht
 obtain ⟨⟨cls2, dd2, data2, sl2⟩, ho2, hc2, n2, hd2⟩ := id hb
 simp only at hc hd hc2 hd2
 subst hc hd hc2 hd2
 have e : vs.toArray ++ ws.toArray = (vs ++ ws).toArray := by simp
 by_cases hw : ws = []
 ·exact concat_meets ⟨_, ho, rfl⟩ ⟨_, ho2, rfl⟩ noFill_tuple_add seq_tuple_add PySem.F.slot_tuple_add PySem.F.entry_tuple_add (PySem.F.args_tuple_add_2 _ _)
   (tuple_addW1 t b vs.toArray ws.toArray n n2 dd dd2 sl sl2 (by simpa using hv) (by simp [hw])) ⟨ho, ho2, h1 hw⟩
 ·refine concat_meets ⟨_, ho, rfl⟩ ⟨_, ho2, rfl⟩ noFill_tuple_add seq_tuple_add PySem.F.slot_tuple_add PySem.F.entry_tuple_add (PySem.F.args_tuple_add_2 _ _)
   (tuple_addW2 t b vs.toArray ws.toArray n n2 dd dd2 sl sl2 (by simpa using hv) (by simpa using hw) (by rw [List.size_toArray, List.size_toArray]; exact hsz)) ⟨ho, ho2, ?_⟩
  rw [e]
  exact h2 hw
def sIx (n d : Nat) : Option Int → Nat
 | none => d
 | some v => if v < 0 then (v + (n : Int)).toNat else min v.toNat n
theorem sIx_none (n d : Nat) : sIx n d none = d := rfl
theorem sIx_nat (n d k : Nat) : sIx n d (some (k : Int)) = min k n := by
 show (if (k : Int) < 0 then ((k : Int) + (n : Int)).toNat else min (k : Int).toNat n) = min k n
 rw [if_neg (by omega), Int.toNat_natCast]
theorem sIx_le (n d : Nat) (hd : d ≤ n) (o : Option Int) : sIx n d o ≤ n := by
 cases o with
 | none => exact hd
 | some v =>
  show (if v < 0 then (v + (n : Int)).toNat else min v.toNat n) ≤ n
  by_cases hv : v < 0
  ·rw [if_pos hv]; omega
  ·rw [if_neg hv]; exact Nat.min_le_right _ _
theorem clip_eq (v : Int) (n d : Nat) : (if v < 0 then max (v + (n : Int)) 0 else min v (n : Int)) = ((sIx n d (some v) : Nat) : Int) := by
 show (if v < 0 then max (v + (n : Int)) 0 else min v (n : Int)) = (((if v < 0 then (v + (n : Int)).toNat else min v.toNat n) : Nat) : Int)
 by_cases hv : v < 0
 ·simp only [if_pos hv]; omega
 ·simp only [if_neg hv]; omega
theorem adjust_gen (lo hi : Option Int) (n : Nat) : Builtin.Slice.sliceAdjust lo hi 1 (n : Int) = (((sIx n 0 lo : Nat) : Int), ((sIx n n hi : Nat) : Int)) := by
 have h1 : ¬ ((1 : Int) < 0) := by omega
 unfold Builtin.Slice.sliceAdjust
 simp only [h1, if_false]
 refine Prod.ext ?_ ?_
 ·cases lo with
  | none => rfl
  | some v => exact clip_eq v n 0
 ·cases hi with
  | none => rfl
  | some v => exact clip_eq v n n
theorem places_gen (i j : Nat) : Builtin.Slice.slicePlaces (i : Int) (j : Int) 1 = j - i := by
 unfold Builtin.Slice.slicePlaces
 have h1 : (1 : Int) > 0 := by omega
 simp only [h1, if_true, Int.ediv_one]
 split <;> omega
theorem slicePart_ {v : Value} {o : Option Int} {Q : Option Int → Shared → Prop} (p : IsPart v o) (h : Q o s) : wpAny (model prog w) A (Builtin.Slice.slicePartIndex v) Q E s := by
 cases p with
 | none => exact slicePart_none h
 | int i t => exact slicePart_int h
theorem sliceApplied_gen {sl : Addr} {vl vu : Value} {lo hi : Option Int} {n : Nat} {Q : Int × Int × Nat → Shared → Prop} (hs : s.heap.IsSliceOf sl vl vu .none) (pl : IsPart vl lo) (pu : IsPart vu hi)
  (h : Q (((sIx n 0 lo : Nat) : Int), 1, sIx n n hi - sIx n 0 lo) s) : wpAny (model prog w) A (Builtin.Slice.sliceApplied (.ref sl) (pure (n : Int))) Q E s := by
 obtain ⟨os, hos, hcs, hds⟩ := id hs
 unfold Builtin.Slice.sliceApplied Builtin.Slice.sliceFields
 refine wpAny_bind (wpAny_bind (wpAny_field hos hds (x := vl) rfl (wpAny_bind (wpAny_field hos hds (x := vu) rfl (wpAny_bind (wpAny_field hos hds (x := .none) rfl (wpAny_pure ?_)))))))
 refine wpAny_bind (slicePart_none ?_)
 show wpAny _ _ (if ((1 : Int) == 0) = true then _ else _) _ _ s
 rw [if_neg (by decide)]
 refine wpAny_bind (slicePart_ pl (wpAny_bind (slicePart_ pu (wpAny_bind (wpAny_pure ?_)))))
 show wpAny _ _ (match Builtin.Slice.sliceAdjust lo hi 1 (n : Int) with | (lo, hi) => pure (lo, (1 : Int), Builtin.Slice.slicePlaces lo hi 1)) _ _ s
 rw [adjust_gen lo hi n]
 show wpAny _ _ (pure (((sIx n 0 lo : Nat) : Int), (1 : Int), Builtin.Slice.slicePlaces ((sIx n 0 lo : Nat) : Int) ((sIx n n hi : Nat) : Int) 1)) _ _ s
 rw [places_gen]
 exact wpAny_pure h
theorem pick_gen (xs : Array Value) (i k : Nat) : ((List.range k).filterMap fun (m : Nat) => xs[((i : Int) + (m : Int) * 1).toNat]?).toArray = ((xs.toList.drop i).take k).toArray := by
 have e : (fun (m : Nat) => xs[((i : Int) + (m : Int) * 1).toNat]?) = fun m => xs[i + m]? := by
  funext m
  have : ((i : Int) + (m : Int) * 1).toNat = i + m := by omega
  rw [this]
 rw [e]
 have := pick_run xs i k
 rw [List.filterMap_map] at this
 have e2 : ((fun x => xs[x]?) ∘ fun x => i + x) = fun m => xs[i + m]? := rfl
 rw [e2] at this
 rw [this]
theorem getItem_tuple_cut {t sl : Addr} {items : Array Value} {vl vu : Value} {lo hi : Option Int} {Q : Value → Shared → Prop} (ht : IsTup s.heap t items) (hs : s.heap.IsSliceOf sl vl vu .none) (pl : IsPart vl lo) (pu : IsPart vu hi)
  (hw : ¬ (sIx items.size 0 lo = 0 ∧ sIx items.size items.size hi = items.size))
  (h : Q (.ref s.heap.objs.size) { s with heap := s.heap.push { cls := .type "tuple", data := .seq ((items.toList.drop (sIx items.size 0 lo)).take (sIx items.size items.size hi - sIx items.size 0 lo)).toArray } })
  (hsz : items.size ≤ sizeLine) : wpAny (model prog w) A (getItem (.ref t) (.ref sl)) Q E s := by
 have htake : sizeOk (.seq ((items.toList.drop (sIx items.size 0 lo)).take (sIx items.size items.size hi - sIx items.size 0 lo)).toArray) := by
  show ((items.toList.drop (sIx items.size 0 lo)).take (sIx items.size items.size hi - sIx items.size 0 lo)).toArray.size ≤ sizeLine
  rw [List.size_toArray, List.length_take, List.length_drop, Array.length_toList]
  omega
 have hj : sIx items.size items.size hi ≤ items.size := sIx_le _ _ (Nat.le_refl _) hi
 obtain ⟨os, hos, hcs, hds⟩ := id hs
 have hTs : s.TypeIs (.ref sl) "slice" := ⟨os, hos, hcs⟩
 unfold getItem
 try with_reducible refine wpAny_holding ?_
 first | refine wpAny_bind (wpAny_pure ?_) | skip
 refine wpAny_bind (wpAny_sequenceKey ht.typeIs (by decide) ?_)
 refine wpAny_bind (wpAny_callSpecial?_slot (name := Str.ofString "__getitem__") ht.typeIs PyProof.Rows.slot_tuple_getitem
  (wpAny_call_entry PyProof.Rows.slot_tuple_getitem ht.typeIs entry_tuple_getitem ?_ (args_tuple_getitem _ _)))
 show wpAny _ _ (Builtin.Tuple.tupleItemsOf (.ref t) >>= _) _ _ s
 refine wpAny_bind (tupleItemsOf_ ht ?_)
 refine wpAny_bind (wpAny_typeOf hTs ?_)
 rw [if_pos (by decide)]
 refine wpAny_bind (sliceApplied_gen hs pl pu ?_)
 have hno : ¬ ((((sIx items.size 0 lo : Nat) : Int) == 0 && (1 : Int) == 1 && (sIx items.size items.size hi - sIx items.size 0 lo) == items.size) = true) := by
  intro q
  rw [Bool.and_eq_true, Bool.and_eq_true] at q
  have q1 : ((sIx items.size 0 lo : Nat) : Int) = 0 := eq_of_beq q.1.1
  have q2 : sIx items.size items.size hi - sIx items.size 0 lo = items.size := eq_of_beq q.2
  exact hw ⟨by omega, by omega⟩
 show wpAny _ _ (if (((sIx items.size 0 lo : Nat) : Int) == 0 && (1 : Int) == 1 && (sIx items.size items.size hi - sIx items.size 0 lo) == items.size) = true then _ else _) _ _ s
 rw [if_neg hno, pick_gen]
 first
  | exact wpAny_bind (m := Builtin.Tuple.tupleExact _) (wpAny_newObj_type (wpAny_pure ⟨_, rfl, wpAny_pure h⟩) htake)
  | exact wpAny_bind (m := Builtin.Tuple.tupleExact _) (wpAny_newObj_type (wpAny_bind (wpAny_pure (wpAny_pure ⟨_, rfl, wpAny_pure h⟩))) htake)
  | exact wpAny_bind (wpAny_bind (m := Builtin.Tuple.tupleExact _) (wpAny_newObj_type (wpAny_pure (wpAny_pure ⟨_, rfl, wpAny_pure h⟩)) htake))
  | exact wpAny_bind (wpAny_bind (m := Builtin.Tuple.tupleExact _) (wpAny_newObj_type (wpAny_pure ⟨_, rfl, wpAny_pure h⟩) htake))
end
end HT
namespace L2
open PySem PySem.Spec PyProof.Rows
abbrev TO := St → Hp → (Option Int → Hp → Prop) → Prop
def PO (X : Cx) (e : Option Expr) (t : TO) : Prop :=
 ∀ (pins : List (Addr × Obj)) (s : Shared) (σ : St) (H : Hp) (Q : Option Int → Hp → Prop), Inv X pins σ H s → t σ H Q →
  wpAny (model X.prog X.w) X.A (evalPart e X.env) (fun u s' => ∃ o H', Inv X pins σ H' s' ∧ IsPart u o ∧ Q o H') X.xe s
def tNoPart : TO := fun _ H Q => Q none H
def tPart (t : TE) : TO := fun σ H Q => t σ H fun x H1 => ∃ i, x = .int i ∧ Q (some i) H1
section
variable {X : Cx} {e : Expr} {te : TE} {lo hi : Option Expr} {tl th : TO} {pos p2 : Pos}
theorem po_none : PO X none tNoPart := by
 intro pins s σ H Q I h
 rw [evalPart_none]
 exact wpAny_pure ⟨none, H, I, .none, h⟩
theorem po_some (h : PE X e te) : PO X (some e) (tPart te) := by
 intro pins s σ H Q I hw
 rw [evalPart_some]
 refine thn (h pins s σ H _ I hw) fun u s1 ⟨x, H1, I1, r1, q1⟩ => ?_
 obtain ⟨i, rfl, q⟩ := q1
 obtain ⟨t, rfl⟩ := r1
 exact ⟨some i, H1, I1, .int i t, q⟩
def SlR (X : Cx) (r : V → Option Int → Option Int → Hp → VK → Prop) : Prop :=
 ∀ (pins : List (Addr × Obj)) (s : Shared) (σ : St) (H : Hp) (x : V) (v vl vu : Value) (lo hi : Option Int) (sl : Addr) (Q : VK), Inv X pins σ H s → RelV x v → s.heap.IsSliceOf sl vl vu .none → IsPart vl lo → IsPart vu hi → r x lo hi H Q →
  ∃ T id, typeLookup (.type T) "__getitem__" = pure (some (.builtin id)) ∧ s.TypeIs v T ∧ wpAny (model X.prog X.w) X.A (getItem v (.ref sl)) (EP X pins σ Q) X.xe s
theorem SlR.or {r r' : V → Option Int → Option Int → Hp → VK → Prop} (h : SlR X r) (h' : SlR X r') : SlR X (fun x lo hi H Q => r x lo hi H Q ∨ r' x lo hi H Q) := by
 intro pins s σ H x v vl vu lo hi sl Q I rx hs pl pu q
 rcases q with q | q
 ·exact h pins s σ H x v vl vu lo hi sl Q I rx hs pl pu q
 ·exact h' pins s σ H x v vl vu lo hi sl Q I rx hs pl pu q
def tSl (r : V → Option Int → Option Int → Hp → VK → Prop) (te : TE) (tl th : TO) : TE := fun σ H Q => te σ H fun x H1 => tl σ H1 fun l H2 => th σ H2 fun u H3 => r x l u H3 Q
theorem pe_slice {r : V → Option Int → Option Int → Hp → VK → Prop} (hr : SlR X r) (he : PE X e te) (hl : PO X lo tl) (hu : PO X hi th) : PE X (.Subscript e (.Slice lo hi none p2) pos) (tSl r te tl th) := by
 intro pins s σ H Q I h
 refine Subscript_ (thn (he pins s σ H _ I h) fun v s1 ⟨x, H1, I1, r1, q1⟩ => ?_)
 refine wpAny_Slice (thn (hl pins s1 σ H1 _ I1 q1) fun vl s2 ⟨l, H2, I2, pl, q2⟩ => thn (hu pins s2 σ H2 _ I2 q2) fun vu s3 ⟨u, H3, I3, pu, q3⟩ => ?_)
 rw [evalPart_none]
 refine wpAny_pure ?_
 have I4 : Inv X pins σ H3 { s3 with heap := s3.heap.push { cls := .type "slice", data := .fields #[vl, vu, .none] } } := I3.kept (t' := s3.toks) fun b ob q => Heap.get?_push_of_some _ q
 obtain ⟨T, id, hT, ht, hg⟩ := hr pins { s3 with heap := s3.heap.push { cls := .type "slice", data := .fields #[vl, vu, .none] } } σ H3 x v vl vu l u s3.heap.objs.size Q I4 r1 (Heap.IsSliceOf.new ..) pl pu q3
 show wpAny (model X.prog X.w) X.A (subscriptTail e (.Slice lo hi none p2) v (.ref s3.heap.objs.size)) (EP X pins σ Q) X.xe { s3 with heap := s3.heap.push { cls := .type "slice", data := .fields #[vl, vu, .none] } }
 exact tail_any (ops := [.ref s3.heap.objs.size, v]) ht hT hg (by with_unfolding_all rfl)
def cutV (xs : List V) (lo hi : Option Int) : List V := (xs.drop (HT.sIx xs.length 0 lo)).take (HT.sIx xs.length xs.length hi - HT.sIx xs.length 0 lo)
theorem cutV_length (xs : List V) (lo hi : Option Int) : (cutV xs lo hi).length ≤ xs.length := by
 unfold cutV
 rw [List.length_take, List.length_drop]
 omega
def rSlT (K : PySem.W.Frag) : V → Option Int → Option Int → Hp → VK → Prop := fun x lo hi H Q => ∃ a xs, x = .ref a ∧ SqT K H a xs ∧
 ¬ (HT.sIx xs.length 0 lo = 0 ∧ HT.sIx xs.length xs.length hi = xs.length) ∧ ∀ p, H p = none → Q (.ref p) (upd H p (.tup (cutV xs lo hi)))
theorem sl_tup : SlR X (rSlT X.K) := by
 intro pins s σ H x v vl vu lo hi sl Q I rx hs pl pu h
 obtain ⟨a, xs, rfl, hx, hw, q⟩ := h
 cases rx
 obtain ⟨its, r, ht, hz⟩ := I.tuple hx
 have hlen : its.toArray.size = xs.length := by rw [List.size_toArray]; exact r.length.symm
 refine ⟨"tuple", _, PyProof.Rows.slot_tuple_getitem.lookup, ht.typeIs, ?_⟩
 refine HT.getItem_tuple_cut ht hs pl pu (by rw [hlen]; exact hw) ?_ (by rw [hlen]; exact hz)
 rw [hlen]
 refine ⟨.ref s.heap.objs.size, _, I.laid (t' := s.toks) (o := .tup (cutV xs lo hi)) (fun b ob q => Heap.get?_push_of_some _ q) (Nat.le_refl _) ?_, rfl, q _ (I.hok.fresh (Nat.le_refl _))⟩
 exact ⟨Nat.le_trans (cutV_length xs lo hi) hz, _, (r.drop (HT.sIx xs.length 0 lo)).take (HT.sIx xs.length xs.length hi - HT.sIx xs.length 0 lo), IsTup.new _ _⟩
def rCatT (K : PySem.W.Frag) : R2 := fun x y H Q => ∃ a b xs ys, x = .ref a ∧ y = .ref b ∧ SqT K H a xs ∧ SqT K H b ys ∧ xs ≠ [] ∧ xs.length + ys.length ≤ sizeLine ∧
 (ys = [] → Q (.ref a) H) ∧ (ys ≠ [] → ∀ p, H p = none → Q (.ref p) (upd H p (.tup (xs ++ ys))))
theorem Vals.nil_iff {xs : List V} {us : List Value} (r : Vals xs us) : us = [] ↔ xs = [] := by
 cases r with
 | nil => simp
 | cons _ _ => simp
theorem op_catT : OpR X (binaryOp .Add) (rCatT X.K) := by
 intro pins s σ H x y v u Q I rx ry h
 obtain ⟨a, b, xs, ys, rfl, rfl, ha, hb, hx, hz, q1, q2⟩ := h
 cases rx
 cases ry
 obtain ⟨its, r1, p1, _⟩ := I.tuple ha
 obtain ⟨its2, r2, p2, _⟩ := I.tuple hb
 refine HT.cat_tup p1 p2 (fun z => hx (r1.nil_iff.mp z)) (fun z => ⟨.ref a, H, I, rfl, q1 (r2.nil_iff.mp z)⟩) (fun z => ?_) (by rw [← r1.length, ← r2.length]; exact hz)
 refine ⟨.ref s.heap.objs.size, _, I.laid (t' := s.toks) (o := .tup (xs ++ ys)) (fun b ob q => Heap.get?_push_of_some _ q) (Nat.le_refl _) ?_, rfl, q2 (fun w => z (r2.nil_iff.mpr w)) _ (I.hok.fresh (Nat.le_refl _))⟩
 exact ⟨by rw [List.length_append]; exact hz, _, r1.append r2, IsTup.new _ _⟩
end
end L2
namespace L2
open PySem PySem.Spec PyProof.Rows
def ixN (n : Nat) (i : Int) : Option Nat := if 0 ≤ i then (if i < n then some i.toNat else none) else if -(n : Int) ≤ i then some (i + n).toNat else none
def atI {α : Type} (xs : List α) (i : Int) : Option α := (ixN xs.length i).bind fun j => xs[j]?
theorem ixN_seq {n : Nat} {i : Int} {j : Nat} (h : ixN n i = some j) : seqIndex? i n = some j ∧ j < n ∧ -(n : Int) ≤ i ∧ i < n := by
 unfold ixN at h
 by_cases h0 : 0 ≤ i
 ·rw [if_pos h0] at h
  by_cases h1 : i < n
  ·rw [if_pos h1] at h
   have e : i.toNat = j := Option.some.inj h
   exact ⟨by rw [seqIndex_of h0 h1, e], by omega, by omega, h1⟩
  ·rw [if_neg h1] at h; cases h
 ·rw [if_neg h0] at h
  by_cases h1 : -(n : Int) ≤ i
  ·rw [if_pos h1] at h
   have e : (i + n).toNat = j := Option.some.inj h
   exact ⟨by rw [seqIndex_neg (by omega) h1, e], by omega, h1, by omega⟩
  ·rw [if_neg h1] at h; cases h
theorem atI_get {α : Type} {xs : List α} {i : Int} {v : α} (h : atI xs i = some v) : ∃ j, seqIndex? i xs.length = some j ∧ xs[j]? = some v ∧ j < xs.length ∧ -(xs.length : Int) ≤ i ∧ i < xs.length := by
 unfold atI at h
 cases e : ixN xs.length i with
 | none => rw [e] at h; cases h
 | some j =>
  rw [e] at h
  obtain ⟨h1, h2, h3, h4⟩ := ixN_seq e
  exact ⟨j, h1, h, h2, h3, h4⟩
theorem atI_nat {α : Type} {xs : List α} {j : Nat} {v : α} (h : xs[j]? = some v) : atI xs (j : Int) = some v := by
 have hj : j < xs.length := (List.getElem?_eq_some_iff.mp h).1
 have e : ixN xs.length (j : Int) = some j := by
  unfold ixN
  rw [if_pos (by omega), if_pos (by omega)]; simp
 unfold atI; rw [e]; exact h
def PlainIx (b : Expr) : Prop := ∀ o i, subscripted b false o i = operate [o, i] (getItem o i)
def IxR (X : Cx) (r : R2) : Prop :=
 ∀ (value slice : Expr) (pins : List (Addr × Obj)) (s : Shared) (σ : St) (H : Hp) (x y : V) (v u : Value) (Q : VK), Inv X pins σ H s → RelV x v → RelV y u → r x y H Q →
  subscripted slice false v u = operate [v, u] (getItem v u) → wpAny (model X.prog X.w) X.A (subscriptTail value slice v u) (EP X pins σ Q) X.xe s
def MtR (X : Cx) (id : String) (r : V → List V → Hp → VK → Prop) : Prop :=
 ∀ (pins : List (Addr × Obj)) (s : Shared) (σ : St) (H : Hp) (x : V) (xs : List V) (v : Value) (us : List Value) (Q : VK), Inv X pins σ H s → RelV x v → Vals xs us → r x xs H Q →
  wpAny (model X.prog X.w) X.A (call (.builtin id) (v :: us)) (EP X pins σ Q) X.xe s
section
variable {X : Cx} {a b : Expr} {ta tb : TE} {pos : Pos}
theorem IxR.or {r r' : R2} (h : IxR X r) (h' : IxR X r') : IxR X (fun x y H Q => r x y H Q ∨ r' x y H Q) := by
 intro value slice pins s σ H x y v u Q I rx ry q hs
 rcases q with q | q
 ·exact h value slice pins s σ H x y v u Q I rx ry q hs
 ·exact h' value slice pins s σ H x y v u Q I rx ry q hs
theorem pe_ix {r : R2} (hr : IxR X r) (ha : PE X a ta) (hb : PE X b tb) (hs : PlainIx b) : PE X (.Subscript a b pos) (tOp r ta tb) := by
 intro pins s σ H Q I h
 exact Subscript_ (binT ha hb I h fun v u s2 x y H2 I2 rx ry q => hr a b pins s2 σ H2 x y v u Q I2 rx ry q (hs _ _))
def rIxL (K : PySem.W.Frag) : R2 := fun x y H Q => ∃ p xs i v, x = .ref p ∧ y = .int i ∧ SqL K H p xs ∧ atI xs i = some v ∧ Q v H
def rIxT (K : PySem.W.Frag) : R2 := fun x y H Q => ∃ p xs i v, x = .ref p ∧ y = .int i ∧ SqT K H p xs ∧ atI xs i = some v ∧ Q v H
def rIxS : R2 := fun x y H Q => ∃ z i c, x = .str z ∧ y = .int i ∧ z.length ≤ sizeLine ∧ atI z.cps.toList i = some c ∧ Q (.str ⟨#[c]⟩) H
theorem ix_list : IxR X (rIxL X.K) := by
 intro value slice pins s σ H x y v u Q I rx ry h hs
 obtain ⟨p, xs, i, z, rfl, rfl, hq, he, q⟩ := h
 cases rx
 obtain ⟨t, rfl⟩ := ry
 obtain ⟨its, r, pl, hz⟩ := I.list hq
 obtain ⟨j, h1, h2, h3, h4, h5⟩ := atI_get he
 obtain ⟨w, ew, rw'⟩ := r.get h2
 have hl := r.length
 have hn := line63
 have fin : EP X pins σ Q w s := ⟨z, H, I, rw', q⟩
 by_cases h0 : 0 ≤ i
 ·have hj : i.toNat = j := by
   rw [seqIndex_of h0 h5] at h1
   exact Option.some.inj h1
  exact item_listR pl.isList h0 (by omega) (by rw [hj]; simpa using ew) fin hs
 ·have hj : (i + (its.toArray.size : Int)).toNat = j := by
   rw [seqIndex_neg (by omega) h4] at h1
   rw [List.size_toArray, ← hl]
   exact Option.some.inj h1
  exact subscriptTail_builtinR (x := w) pl.isList.typeIs slot_list_getitem.lookup
   (wpAny_getItem_list_neg (Q := fun r s' => r = w ∧ EP X pins σ Q r s') pl.isList (by omega) (by rw [List.size_toArray] <;> omega) (by omega) (by rw [hj]; simpa using ew) ⟨rfl, fin⟩) hs
theorem ix_tup : IxR X (rIxT X.K) := by
 intro value slice pins s σ H x y v u Q I rx ry h hs
 obtain ⟨p, xs, i, z, rfl, rfl, hq, he, q⟩ := h
 cases rx
 obtain ⟨t, rfl⟩ := ry
 obtain ⟨its, r, pl, hz⟩ := I.tuple hq
 obtain ⟨j, h1, h2, h3, h4, h5⟩ := atI_get he
 obtain ⟨w, ew, rw'⟩ := r.get h2
 have hl := r.length
 have hn := line63
 have fin : EP X pins σ Q w s := ⟨z, H, I, rw', q⟩
 exact subscriptTail_builtinR (x := w) pl.typeIs slot_tuple_getitem.lookup
  (getItem_tuple (j := j) (Q := fun r s' => r = w ∧ EP X pins σ Q r s') pl (by omega) (by omega) (by rw [List.size_toArray, ← hl]; exact h1) (by simpa using ew) ⟨rfl, fin⟩) hs
theorem ix_str : IxR X rIxS := by
 intro value slice pins s σ H x y v u Q I rx ry h hs
 obtain ⟨z, i, c, rfl, rfl, hz, he, q⟩ := h
 obtain ⟨t, rfl⟩ := rx
 obtain ⟨t', rfl⟩ := ry
 obtain ⟨j, h1, h2, h3, h4, h5⟩ := atI_get he
 have hl : z.cps.toList.length = z.length := by simp [Str.length]
 rw [hl] at h1 h4 h5
 have hn := line63
 exact tail_any (typeIs_str s z t) slot_str_getitem.lookup (getItem_str (c := c) (by
  have e1 : decide (i < -(2 ^ 63 : Int)) = false := decide_eq_false (by omega)
  have e2 : decide (i ≥ 2 ^ 63) = false := decide_eq_false (by omega)
  rw [e1, e2, Bool.or_false]) (by rw [h1]; simpa using h2) ⟨.str ⟨#[c]⟩, H, I.tok _, ⟨_, rfl⟩, q⟩) hs
def rIx (K : PySem.W.Frag) : R2 := fun x y H Q => rIxL K x y H Q ∨ rIxT K x y H Q ∨ rIxS x y H Q
theorem ix_seq : IxR X (rIx X.K) := ix_list.or (ix_tup.or ix_str)
theorem mapSeq_set (its : List Value) (n j : Nat) (u : Value) : Obj.mapSeq (·.setIfInBounds j u) { cls := .type "list", data := .seq its.toArray n } = { cls := .type "list", data := .seq (its.set j u).toArray n } := by
 simp [Obj.mapSeq]
theorem Inv.lst {pins : List (Addr × Obj)} {σ : St} {H : Hp} {s : Shared} {p : Addr} {xs : List V} (I : Inv X pins σ H s) (h : H p = some (.lst xs)) :
  ∃ (its : List Value) (n : Nat), Vals xs its ∧ s.heap.get? p = some { cls := .type "list", data := .seq its.toArray n } ∧ xs.length ≤ sizeLine := by
 obtain ⟨z, its, n, r, e⟩ := I.hok p _ h
 exact ⟨its, n, r, e, z⟩
theorem Inv.lstUpd {pins : List (Addr × Obj)} {σ : St} {H : Hp} {s : Shared} {p : Addr} {xs ys : List V} {its its' : List Value} {n n' : Nat} {f : Obj → Obj} (I : Inv X pins σ H s) (h : H p = some (.lst xs))
  (ho : s.heap.get? p = some { cls := .type "list", data := .seq its.toArray n }) (hf : f { cls := .type "list", data := .seq its.toArray n } = { cls := .type "list", data := .seq its'.toArray n' }) (r : Vals ys its') (hz : ys.length ≤ sizeLine) (t : Nat) :
  Inv X pins σ (upd H p (.lst ys)) { s with heap := s.heap.update p f, toks := t } := by
 have e : (s.heap.update p f).get? p = some { cls := .type "list", data := .seq its'.toArray n' } := by
  rw [Heap.get?_update_self f ho (by rw [hf] <;> rfl), hf]
 refine I.write (x := p) (e := p) (by rw [h]; trivial) (.inl rfl) (fun b u hb q => (Heap.get?_update_other _ _ (Ne.symm hb)).trans q) ⟨_, e⟩ ?_
 exact ⟨hz, its', n', r, e⟩
def rSetL : V → V → V → Hp → (Hp → Prop) → Prop := fun o i v H Q => ∃ p xs k j, o = .ref p ∧ i = .int k ∧ H p = some (.lst xs) ∧ ixN xs.length k = some j ∧ Q (upd H p (.lst (xs.set j v)))
theorem set_list : PSet X rSetL := by
 intro pins s σ H o i v ov iv u Q I ro ri rv h
 obtain ⟨p, xs, k, j, rfl, rfl, hp, hj, q⟩ := h
 cases ro
 obtain ⟨t, rfl⟩ := ri
 obtain ⟨its, n, r, ho, hz⟩ := I.lst hp
 obtain ⟨h1, h2, h3, h4⟩ := ixN_seq hj
 have hl := r.length
 have hn := line63
 have I' : Inv X pins σ (upd H p (.lst (xs.set j v))) { s with heap := s.heap.update p (Obj.mapSeq (·.setIfInBounds j u)) } :=
  I.lstUpd hp ho (mapSeq_set its n j u) (r.set rv j) (by rw [List.length_set]; exact hz) s.toks
 by_cases h0 : 0 ≤ k
 ·have hk : k.toNat = j := by
   rw [seqIndex_of h0 h4] at h1
   exact Option.some.inj h1
  exact PySem.W.ki_setAt ho h0 (by omega) (by rw [List.size_toArray, ← hl]; exact h4) (by rw [hk]; exact ⟨_, I', q⟩)
 ·have hk : (k + (its.toArray.size : Int)).toNat = j := by
   rw [seqIndex_neg (by omega) h3] at h1
   rw [List.size_toArray, ← hl]
   exact Option.some.inj h1
  exact PySem.W.ki_setBack ho (by omega) (by rw [List.size_toArray, ← hl]; exact h3) (by omega) (by rw [hk]; exact ⟨_, I', q⟩)
theorem slice_bounds (lo hi : Option Int) (n : Nat) : (sliceBounds lo hi none n).1 = ((HT.sIx n 0 lo : Nat) : Int) ∧ (sliceBounds lo hi none n).2.1 = ((HT.sIx n n hi : Nat) : Int) ∧ (sliceBounds lo hi none n).2.2 = 1 := by
 refine ⟨?_, ?_, rfl⟩
 ·cases lo with
  | none => simp [sliceBounds, HT.sIx]
  | some i =>
   simp only [sliceBounds, HT.sIx, Option.getD_none, show (1 : Int) > 0 by decide, if_true]
   by_cases h : i < 0
   ·simp only [h, if_true] <;> omega
   ·simp only [h, if_false] <;> omega
 ·cases hi with
  | none => simp [sliceBounds, HT.sIx]
  | some i =>
   simp only [sliceBounds, HT.sIx, Option.getD_none, show (1 : Int) > 0 by decide, if_true]
   by_cases h : i < 0
   ·simp only [h, if_true] <;> omega
   ·simp only [h, if_false] <;> omega
theorem slicePick_cut (its : List Value) (lo hi : Option Int) : slicePick its.toArray lo hi none = ((its.drop (HT.sIx its.length 0 lo)).take (HT.sIx its.length its.length hi - HT.sIx its.length 0 lo)).toArray := by
 obtain ⟨h1, h2, h3⟩ := slice_bounds lo hi its.toArray.size
 unfold slicePick
 rw [h1, h2, h3]
 simp only [sliceRange_one, pick_run, List.size_toArray] <;> rfl
def rSlL (K : PySem.W.Frag) : V → Option Int → Option Int → Hp → VK → Prop := fun x lo hi H Q => ∃ a xs, x = .ref a ∧ SqL K H a xs ∧ ∀ p, H p = none → Q (.ref p) (upd H p (.lst (cutV xs lo hi)))
theorem sl_list : SlR X (rSlL X.K) := by
 intro pins s σ H x v vl vu lo hi sl Q I rx hs pl pu h
 obtain ⟨a, xs, rfl, hx, q⟩ := h
 cases rx
 obtain ⟨its, r, ht, hz⟩ := I.list hx
 have hlen := r.length
 refine ⟨"list", _, slot_list_getitem.lookup, ht.isList.typeIs, ?_⟩
 refine wpAny_getItem_list_slice ht.isList hs pl pu .none (by simp) ?_ (by rw [List.size_toArray] <;> omega)
 rw [slicePick_cut, ← hlen]
 refine ⟨.ref s.heap.objs.size, _, I.laid (t' := s.toks) (o := .lst (cutV xs lo hi)) (fun b ob q => Heap.get?_push_of_some _ q) (Nat.le_refl _) ?_, rfl, q _ (I.hok.fresh (Nat.le_refl _))⟩
 exact ⟨Nat.le_trans (cutV_length xs lo hi) hz, _, 0, (r.drop (HT.sIx xs.length 0 lo)).take (HT.sIx xs.length xs.length hi - HT.sIx xs.length 0 lo), Heap.get?_push_size _ rfl⟩
def flatV : V → Bool
 | .non => true
 | .bl _ => true
 | .int _ => true
 | .str _ => true
 | _ => false
def eqV : V → V → Bool
 | .non, .non => true
 | .bl a, .bl b => a == b
 | .bl a, .int b => (if a then 1 else 0) == b
 | .int a, .bl b => a == (if b then 1 else 0)
 | .int a, .int b => a == b
 | .str a, .str b => a == b
 | _, _ => false
theorem eqAt_V {A : Around} {s : Shared} {y x : V} {u v : Value} (ry : RelV y u) (rx : RelV x v) (fy : flatV y = true) (fx : flatV x = true) : SeqAt.EqAt A s u v (eqV y x) := by
 cases y with
 | non =>
  cases ry
  cases x with
  | non => cases rx; exact SeqAt.EqAt.same _
  | bl b => cases rx; exact SeqAt.EqAt.none_bool b
  | int b => obtain ⟨t, rfl⟩ := rx; exact SeqAt.EqAt.none_int b t
  | str b => obtain ⟨t, rfl⟩ := rx; exact SeqAt.EqAt.none_str b t
  | _ => exact absurd (show false = true from fx) Bool.false_ne_true
 | bl a =>
  cases ry
  cases x with
  | non => cases rx; exact SeqAt.EqAt.bool_none a
  | bl b => cases rx; exact SeqAt.EqAt.bool_bool a b
  | int b => obtain ⟨t, rfl⟩ := rx; exact SeqAt.EqAt.bool_int a b t
  | str b => obtain ⟨t, rfl⟩ := rx; exact SeqAt.EqAt.bool_str a b t
  | _ => exact absurd (show false = true from fx) Bool.false_ne_true
 | int a =>
  obtain ⟨t', rfl⟩ := ry
  cases x with
  | non => cases rx; exact SeqAt.EqAt.int_none a t'
  | bl b => cases rx; exact SeqAt.EqAt.int_bool a t' b
  | int b => obtain ⟨t, rfl⟩ := rx; exact SeqAt.EqAt.int_int a t' b t
  | str b => obtain ⟨t, rfl⟩ := rx; exact SeqAt.EqAt.int_str a t' b t
  | _ => exact absurd (show false = true from fx) Bool.false_ne_true
 | str a =>
  obtain ⟨t', rfl⟩ := ry
  cases x with
  | non => cases rx; exact SeqAt.EqAt.str_none a t'
  | bl b => cases rx; exact SeqAt.EqAt.str_bool a t' b
  | int b => obtain ⟨t, rfl⟩ := rx; exact SeqAt.EqAt.str_int a t' b t
  | str b => obtain ⟨t, rfl⟩ := rx; exact SeqAt.EqAt.str_str a t' b t
  | _ => exact absurd (show false = true from fx) Bool.false_ne_true
 | _ => exact absurd (show false = true from fy) Bool.false_ne_true
def eqU (x : V) (u : Value) : Bool := match u with
 | .none => eqV .non x
 | .bool b => eqV (.bl b) x
 | .int i _ => eqV (.int i) x
 | .str z _ => eqV (.str z) x
 | _ => false
theorem eqU_of {x y : V} {u : Value} (r : RelV y u) (f : flatV y = true) : eqU x u = eqV y x := by
 cases y with
 | non => cases r; rfl
 | bl b => cases r; rfl
 | int i => obtain ⟨t, rfl⟩ := r; rfl
 | str z => obtain ⟨t, rfl⟩ := r; rfl
 | _ => exact absurd (show false = true from f) Bool.false_ne_true
theorem any_eqU {x : V} : ∀ {xs : List V} {us : List Value}, Vals xs us → xs.all flatV = true → us.any (eqU x) = xs.any fun y => eqV y x
 | _, _, .nil, _ => rfl
 | y :: xs, u :: us, .cons r t, f => by
  rw [List.all_cons, Bool.and_eq_true] at f
  rw [List.any_cons, List.any_cons, eqU_of r f.1, any_eqU t f.2]
theorem mem_eqAt {A : Around} {s : Shared} {x : V} {v : Value} (rx : RelV x v) (fx : flatV x = true) : ∀ {xs : List V} {us : List Value}, Vals xs us → xs.all flatV = true → ∀ u ∈ us, SeqAt.EqAt A s u v (eqU x u)
 | _, _, .nil, _ => fun u hu => by cases hu
 | y :: xs, u :: us, .cons r t, f => fun u' hu => by
  rw [List.all_cons, Bool.and_eq_true] at f
  rcases List.mem_cons.mp hu with rfl | hu
  ·rw [eqU_of r f.1]; exact eqAt_V r rx f.1 fx
  ·exact mem_eqAt rx fx t f.2 u' hu
def inV (x : V) (xs : List V) : Bool := xs.any fun y => eqV y x
def rIn (K : PySem.W.Frag) (neg : Bool) : R2 := fun x y H Q => ∃ p xs, y = .ref p ∧ (SqL K H p xs ∨ SqT K H p xs) ∧ flatV x = true ∧ xs.all flatV = true ∧ Q (.bl (if neg then !inV x xs else inV x xs)) H
theorem op_in_seq : OpR X (compareOp .In) (rIn X.K false) := by
 intro pins s σ H x y v u Q I rx ry h
 obtain ⟨p, xs, rfl, hq, fx, fs, q⟩ := h
 cases ry
 rcases hq with hq | hq
 ·obtain ⟨its, r, pl, hz⟩ := I.list hq
  refine SeqAt.in_listAt (eqU x) pl.isList (fun w hw => mem_eqAt rx fx r fs w (by simpa using hw)) ⟨.bl _, H, I, rfl, ?_⟩
  rw [show its.toArray.any (eqU x) = its.any (eqU x) by simp, any_eqU r fs]
  exact q
 ·obtain ⟨its, r, pl, hz⟩ := I.tuple hq
  refine SeqAt.in_tupleAt (eqU x) pl (fun w hw => mem_eqAt rx fx r fs w (by simpa using hw)) ⟨.bl _, H, I, rfl, ?_⟩
  rw [show its.toArray.any (eqU x) = its.any (eqU x) by simp, any_eqU r fs]
  exact q
theorem op_notIn_seq : OpR X (compareOp .NotIn) (rIn X.K true) := by
 intro pins s σ H x y v u Q I rx ry h
 obtain ⟨p, xs, rfl, hq, fx, fs, q⟩ := h
 cases ry
 rcases hq with hq | hq
 ·obtain ⟨its, r, pl, hz⟩ := I.list hq
  refine SeqAt.notIn_listAt (eqU x) pl.isList (fun w hw => mem_eqAt rx fx r fs w (by simpa using hw)) ⟨.bl _, H, I, rfl, ?_⟩
  rw [show its.toArray.any (eqU x) = its.any (eqU x) by simp, any_eqU r fs]
  exact q
 ·obtain ⟨its, r, pl, hz⟩ := I.tuple hq
  refine SeqAt.notIn_tupleAt (eqU x) pl (fun w hw => mem_eqAt rx fx r fs w (by simpa using hw)) ⟨.bl _, H, I, rfl, ?_⟩
  rw [show its.toArray.any (eqU x) = its.any (eqU x) by simp, any_eqU r fs]
  exact q
theorem call_len_seq : CallR X (.builtin "len") (fun xs H Q => ∃ p ys, xs = [.ref p] ∧ (SqL X.K H p ys ∨ SqT X.K H p ys) ∧ Q (.int ys.length) H) := by
 intro pins s σ H xs us Q I r h
 obtain ⟨p, ys, rfl, hq, q⟩ := h
 obtain ⟨u, rfl, rx⟩ := vals1 r
 cases rx
 have hn := line63
 rcases hq with hq | hq
 ·obtain ⟨its, r', pl, hz⟩ := I.list hq
  have hlen := r'.length
  exact Calls.call_len_list pl.isList (by simp only [List.size_toArray] <;> omega) ⟨.int ys.length, H, I.tok _, ⟨s.toks + 1, by rw [List.size_toArray, hlen]⟩, q⟩
 ·obtain ⟨its, r', pl, hz⟩ := I.tuple hq
  have hlen := r'.length
  exact len_tuple pl (by simp only [List.size_toArray] <;> omega) ⟨.int ys.length, H, I.tok _, ⟨s.toks + 1, by rw [List.size_toArray, hlen]⟩, q⟩
theorem call_len_str : CallR X (.builtin "len") (fun xs H Q => ∃ z, xs = [.str z] ∧ z.length ≤ sizeLine ∧ Q (.int z.length) H) := by
 intro pins s σ H xs us Q I r h
 obtain ⟨z, rfl, hz, q⟩ := h
 obtain ⟨u, rfl, t, rfl⟩ := vals1 r
 have hn := line63
 exact len_str (by omega) ⟨.int z.length, H, I.tok _, ⟨_, rfl⟩, q⟩
theorem call_list_of : CallR X (.type "list") (fun xs H Q => ∃ p ys, xs = [.ref p] ∧ (SqL X.K H p ys ∨ SqT X.K H p ys) ∧ ∀ l, H l = none → Q (.ref l) (upd H l (.lst ys))) := by
 intro pins s σ H xs us Q I r h
 obtain ⟨p, ys, rfl, hq, q⟩ := h
 obtain ⟨u, rfl, rx⟩ := vals1 r
 cases rx
 have fin : ∀ (its : List Value), Vals ys its → ys.length ≤ sizeLine → ∀ (h' : Heap) (c' : Nat), (∀ b o', s.heap.get? b = some o' → h'.get? b = some o') →
   h'.get? s.heap.objs.size = some { cls := .type "list", dict := none, data := .seq its.toArray c', slots := #[] } → EP X pins σ Q (.ref s.heap.objs.size) { s with heap := h' } := fun its r' hz h' c' kp e =>
  ⟨.ref s.heap.objs.size, _, I.laid (t' := s.toks) kp (Nat.le_refl _) (show ObjOk X.prog X.w _ h' _ (.lst ys) from ⟨hz, its, c', r', e⟩), rfl, q _ (I.hok.fresh (Nat.le_refl _))⟩
 rcases hq with hq | hq
 ·obtain ⟨its, r', pl, hz⟩ := I.list hq
  have hlen := r'.length
  obtain ⟨o, ho, hc, n, hd⟩ := pl.isList
  exact call_list_seq p (.inl rfl) ho hc hd (fun h' c' kp e => fin its r' hz h' c' kp e) (by simp only [List.size_toArray] <;> omega)
 ·obtain ⟨its, r', pl, hz⟩ := I.tuple hq
  have hlen := r'.length
  obtain ⟨o, ho, hc, n, hd⟩ := pl
  exact call_list_seq p (.inr rfl) ho hc hd (fun h' c' kp e => fin its r' hz h' c' kp e) (by simp only [List.size_toArray] <;> omega)
theorem call_tuple_of : CallR X (.type "tuple") (fun xs H Q => ∃ p ys, xs = [.ref p] ∧ ((SqL X.K H p ys ∧ ∀ l, H l = none → Q (.ref l) (upd H l (.tup ys))) ∨ (SqT X.K H p ys ∧ Q (.ref p) H))) := by
 intro pins s σ H xs us Q I r h
 obtain ⟨p, ys, rfl, h⟩ := h
 obtain ⟨u, rfl, rx⟩ := vals1 r
 cases rx
 rcases h with ⟨hq, q⟩ | ⟨hq, q⟩
 ·obtain ⟨its, r', pl, hz⟩ := I.list hq
  have hlen := r'.length
  refine call_tuple_list pl.isList (fun h' kp => ?_) (by simp only [List.size_toArray] <;> omega)
  have I1 : Inv X pins σ H { s with heap := h' } := I.kept (t' := s.toks) kp
  have I2 : Inv X pins σ (upd H h'.objs.size (.tup ys)) { s with heap := h'.push { cls := .type "tuple", data := .seq its.toArray } } :=
   I1.laid (t' := s.toks) (fun b o e => Heap.get?_push_of_some _ e) (Nat.le_refl _) (show ObjOk X.prog X.w _ _ _ (.tup ys) from ⟨hz, its, r', IsTup.new _ _⟩)
  exact ⟨.ref h'.objs.size, _, I2, rfl, q _ (I1.hok.fresh (Nat.le_refl _))⟩
 ·obtain ⟨its, r', pl, hz⟩ := I.tuple hq
  exact call_tuple_same pl ⟨.ref p, H, I, rfl, q⟩
def tyV (K : PySem.W.Frag) (T : String) (x : V) (H : Hp) : Prop := match x with
 | .str _ => T = "str"
 | .int _ => T = "int"
 | .ref p => (T = "list" ∧ ∃ xs, SqL K H p xs) ∨ (T = "tuple" ∧ ∃ o, K.lookup p = some o ∧ o.cls = .type "tuple" ∧ o.dict = none) ∨
   (T = "dict" ∧ ((∃ kvs, H p = some (.dK kvs)) ∨ ∃ kvs, H p = some (.dT kvs))) ∨ (T = "set" ∧ ∃ S n, H p = some (.set S n))
 | _ => False
theorem tyV_is {pins : List (Addr × Obj)} {σ : St} {H : Hp} {s : Shared} {T : String} {x : V} {v : Value} (I : Inv X pins σ H s) (r : RelV x v) (ty : tyV X.K T x H) :
  s.TypeIs v T ∧ ∀ a, v = .ref a → ∃ ob, s.heap.get? a = some ob ∧ ob.dict = none := by
 cases x with
 | str z =>
  obtain ⟨t, rfl⟩ := r
  cases (show T = "str" from ty)
  exact ⟨typeIs_str s z t, fun _ e => nomatch e⟩
 | int i =>
  obtain ⟨t, rfl⟩ := r
  cases (show T = "int" from ty)
  exact ⟨typeIs_int s i t, fun _ e => nomatch e⟩
 | ref p =>
  cases r
  rcases ty with ⟨rfl, xs, hq⟩ | ⟨rfl, o, hk, hc, hd⟩ | ⟨rfl, hk⟩ | ⟨rfl, S, n, hk⟩
  ·obtain ⟨its, _, pl, _⟩ := I.list hq
   refine ⟨pl.isList.typeIs, fun a e => ?_⟩
   cases e
   obtain ⟨o, n, e, c, hd, _⟩ := pl
   exact ⟨o, e, hd⟩
  ·refine ⟨⟨o, I.kIn p o hk, hc⟩, fun a e => ?_⟩
   cases e
   exact ⟨o, I.kIn _ o hk, hd⟩
  ·have z : ∃ o, s.heap.get? p = some o ∧ o.ExactDict := by
    rcases hk with ⟨kvs, hk⟩ | ⟨kvs, hk⟩
    ·obtain ⟨_, _, _, _, o, _, _, e, ex, _⟩ := I.hok p _ hk
     exact ⟨o, e, ex⟩
    ·obtain ⟨_, _, _, _, o, _, _, e, ex, _⟩ := I.hok p _ hk
     exact ⟨o, e, ex⟩
   obtain ⟨o, e, ex⟩ := z
   refine ⟨⟨o, e, ex.1⟩, fun a e2 => ?_⟩
   cases e2
   exact ⟨o, e, ex.2.1⟩
  ·obtain ⟨o, _, _, _, e, ex, _⟩ := I.hok p _ hk
   refine ⟨⟨o, e, ex.1⟩, fun a e2 => ?_⟩
   cases e2
   exact ⟨o, e, ex.2.1⟩
 | _ => exact False.elim ty
def tBM0 (K : PySem.W.Frag) (T : String) (r : V → List V → Hp → VK → Prop) (to : TE) : TE := fun σ H Q => to σ H fun x H1 => tyV K T x H1 ∧ r x [] H1 Q
def tBM (K : PySem.W.Frag) (T : String) (r : V → List V → Hp → VK → Prop) (to : TE) (t : TA) : TE := fun σ H Q => to σ H fun x H1 => tyV K T x H1 ∧ t σ H1 fun xs H2 => r x xs H2 Q
variable {o e : Expr} {es : List Expr} {to : TE} {t : TA} {name : Str} {apos cpos : Pos} {T id : String} {r : V → List V → Hp → VK → Prop}
theorem pe_bm0 (pa : PlainAttrs T) (slot : Slot T name id) (hty : typeOf (.builtin id) = pure (.type "method_descriptor")) (hm : MtR X id r) (ho : PE X o to)
  (hbase : attributeBase o name X.env (eval o X.env) = eval o X.env := by rfl) (hline : (apos.endLine == cpos.line) = true := by rfl) : PE X (.Call (.Attribute o name apos) [] [] cpos) (tBM0 X.K T r to) := by
 intro pins s σ H Q I h
 refine wpAny_Call_method0_late hbase hline (thn (ho pins s σ H _ I h) fun v s1 ⟨x, H1, I1, r1, ty, q1⟩ => ?_)
 obtain ⟨h1, h2⟩ := tyV_is I1 r1 ty
 exact ⟨T, id, pa, slot, hty, h1, h2, Calls.callWith_builtin rfl (PySem.evalArgs_none (hm pins s1 σ H1 x [] v [] Q I1 r1 .nil q1))⟩
theorem pe_bm (pa : PlainAttrs T) (slot : Slot T name id) (hty : typeOf (.builtin id) = pure (.type "method_descriptor")) (hm : MtR X id r) (ho : PE X o to) (ha : PA X (e :: es) t)
  (hbase : attributeBase o name X.env (eval o X.env) = eval o X.env := by rfl)
  (hfew : ((backTo cpos (starEach (e :: es) X.env)).all (fun x => !x.1) && (backToKw cpos (keywordEach [] X.env)).all (fun x => x.1.isSome)
   && decide ((e :: es).length + ([] : List Keyword).length + (if ([] : List Keyword).isEmpty then 0 else 1) < 30)) = true := by rfl)
  (hline : (apos.endLine == cpos.line) = true := by rfl) (hs : starEach (e :: es) X.env = (false, eval e X.env) :: starEach es X.env := by rfl) (hplain : (backTo cpos (starEach es X.env)).any (·.1) = false := by rfl) :
  PE X (.Call (.Attribute o name apos) (e :: es) [] cpos) (tBM X.K T r to t) := by
 intro pins s σ H Q I h
 refine wpAny_Call_method_late hbase hfew hline rfl (thn (ho pins s σ H _ I h) fun v s1 ⟨x, H1, I1, r1, ty, q1⟩ => ?_)
 obtain ⟨h1, h2⟩ := tyV_is I1 r1 ty
 refine ⟨T, id, pa, slot, hty, h1, h2, ?_⟩
 have hA := ha cpos pins s1 σ H1 _ I1 q1
 rw [hs] at hA ⊢
 refine Calls.callWith_builtin (by show (false || (backTo cpos (starEach es X.env)).any (·.1)) = false; rw [hplain] <;> rfl) (Calls.evalArgs_plain ?_)
 exact thn hA fun us s2 ⟨vs, H2, I2, r2, q2⟩ => hm pins s2 σ H2 x vs v us Q I2 r1 r2 q2
end
end L2
namespace L2
open PySem PySem.Spec PyProof.Rows
def MtM (X : Cx) (id : String) (r : V → List V → Hp → VK → Prop) : Prop :=
 ∀ (pins : List (Addr × Obj)) (s : Shared) (σ : St) (H : Hp) (x : V) (xs : List V) (v : Value) (us : List Value) (Q : VK), Inv X pins σ H s → RelV x v → Vals xs us → r x xs H Q →
  wpAny (model X.prog X.w) X.A (call (.builtin id) (v :: us)) (EP X pins σ Q) X.xe s
theorem Vals.one : ∀ {x : V} {us : List Value}, Vals [x] us → ∃ u, us = [u] ∧ RelV x u
 | _, _, .cons r .nil => ⟨_, rfl, r⟩
theorem Vals.zero : ∀ {us : List Value}, Vals [] us → us = []
 | _, .nil => rfl
theorem Vals.dropLast {xs : List V} {us : List Value} (h : Vals xs us) : Vals xs.dropLast us.dropLast := by
 induction h with
 | nil => exact .nil
 | cons r t ih =>
  cases t with
  | nil => exact .nil
  | cons q t' => exact .cons r ih
theorem Vals.eraseIdx : ∀ {xs : List V} {us : List Value} (i : Nat), Vals xs us → Vals (xs.eraseIdx i) (us.eraseIdx i)
 | _, _, _, .nil => .nil
 | _, _, 0, .cons _ t => t
 | _, _, i + 1, .cons r t => .cons r (Vals.eraseIdx i t)
theorem Vals.rep {xs : List V} {us : List Value} (h : Vals xs us) : ∀ k : Nat, Vals (List.replicate k xs).flatten (List.replicate k us).flatten
 | 0 => .nil
 | k + 1 => by
  rw [List.replicate_succ, List.replicate_succ, List.flatten_cons, List.flatten_cons]
  exact Vals.append h (Vals.rep h k)
theorem erase_last {α : Type} (l : List α) : l.eraseIdx (l.length - 1) = l.dropLast := by
 induction l with
 | nil => rfl
 | cons a r ih =>
  cases r with
  | nil => rfl
  | cons b r =>
   have e : (a :: b :: r).length - 1 = ((b :: r).length - 1) + 1 := by
    have h1 : (a :: b :: r).length = r.length + 2 := rfl
    have h2 : (b :: r).length = r.length + 1 := rfl
    omega
   rw [e, List.eraseIdx_cons_succ, ih]
   all_goals rfl
theorem len_erase {α : Type} : ∀ (l : List α) (i : Nat), (l.eraseIdx i).length ≤ l.length
 | [], _ => Nat.le_refl _
 | _ :: _, 0 => Nat.le_succ _
 | _ :: r, i + 1 => Nat.succ_le_succ (len_erase r i)
theorem foldl_rep (its : List Value) : ∀ (k : Nat) (acc : List Value),
  List.foldl (fun x1 x2 => x1 ++ x2) acc.toArray (List.replicate k its.toArray) = (acc ++ (List.replicate k its).flatten).toArray
 | 0, acc => by simp
 | k + 1, acc => by
  have e : acc.toArray ++ its.toArray = (acc ++ its).toArray := by simp
  have e2 : (acc ++ its) ++ (List.replicate k its).flatten = acc ++ (List.replicate (k + 1) its).flatten := by
   rw [List.replicate_succ, List.flatten_cons, List.append_assoc]
  rw [← e2, ← foldl_rep its k (acc ++ its), ← e, List.replicate_succ, List.foldl_cons]
section
variable {X : Cx} {pins : List (Addr × Obj)} {σ : St} {H : Hp} {s : Shared} {l b : Addr} {xs ys zs : List V}
theorem Inv.lset {its its' : List Value} {n : Nat} {f : Array Value → Array Value} {t' : Nat} (I : Inv X pins σ H s) (hH : H l = some (.lst xs))
  (e : s.heap.get? l = some { cls := .type "list", data := .seq its.toArray n }) (hf : f its.toArray = its'.toArray) (hv : Vals ys its') (hz : ys.length ≤ sizeLine) :
  Inv X pins σ (upd H l (.lst ys)) { s with heap := s.heap.update l (Obj.mapSeq f), toks := t' } := by
 have q := PySem.IsL.update e f
 rw [hf] at q
 refine I.write (x := l) (e := l) (by rw [hH]; exact trivial) (.inl rfl) (fun b' u hb hu => (Heap.get?_update_other s.heap (Obj.mapSeq f) (Ne.symm hb)).trans hu) ⟨_, q⟩ ?_
 exact ⟨hz, its', _, hv, q⟩
theorem Inv.lnew {its : List Value} {t' : Nat} (I : Inv X pins σ H s) (hv : Vals ys its) (hz : ys.length ≤ sizeLine) :
  Inv X pins σ (upd H s.heap.objs.size (.lst ys)) { s with heap := s.heap.push { cls := .type "list", data := .seq its.toArray }, toks := t' } :=
 I.laid (fun _ _ q => Heap.get?_push_of_some _ q) (Nat.le_refl _) ⟨hz, its, 0, hv, Heap.get?_push_size _ rfl⟩
theorem Inv.fresh (I : Inv X pins σ H s) : H s.heap.objs.size = none := I.hok.fresh (Nat.le_refl _)
theorem Inv.lstM (I : Inv X pins σ H s) (hH : H l = some (.lst xs)) : xs.length ≤ sizeLine ∧ ∃ (its : List Value) (n : Nat), Vals xs its ∧ xs.length = its.length ∧ s.heap.get? l = some { cls := .type "list", data := .seq its.toArray n } := by
 obtain ⟨z, its, n, r, e⟩ := I.hok l _ hH
 exact ⟨z, its, n, r, r.length, e⟩
theorem notLongL {n : Nat} (h : n ≤ sizeLine) : Builtin.List.listTooLong n = false := by
 unfold Builtin.List.listTooLong
 exact decide_eq_false (by omega)
end
section
variable {X : Cx}
def rAppend : V → List V → Hp → VK → Prop := fun x vs H Q => ∃ l xs y, x = .ref l ∧ vs = [y] ∧ H l = some (.lst xs) ∧ xs.length < sizeLine ∧ Q .non (upd H l (.lst (xs ++ [y])))
theorem mt_append : MtM X "list.append" rAppend := by
 intro pins s σ H x vs v us Q I rx rv h
 obtain ⟨l, xs, y, rfl, rfl, hH, hz, q⟩ := h
 cases rx
 obtain ⟨u, rfl, ru⟩ := rv.one
 obtain ⟨z, its, n, r, hl, e⟩ := I.lstM hH
 refine call_meets F.slot_list_append ⟨_, e, rfl⟩ F.entry_list_append (F.args_list_append_2 _ _) (PySem.list_append l its.toArray n u (by rw [List.size_toArray]; omega)) ⟨e, ?_⟩
 refine ⟨.non, _, I.lset (its' := its ++ [u]) hH e (by simp) (r.append (.cons ru .nil)) ?_, rfl, q⟩
 rw [List.length_append, List.length_singleton]
 omega
def rExtend : V → List V → Hp → VK → Prop := fun x vs H Q => ∃ l b xs zs, x = .ref l ∧ vs = [.ref b] ∧ H l = some (.lst xs) ∧ H b = some (.lst zs) ∧ xs.length + zs.length ≤ sizeLine ∧ Q .non (upd H l (.lst (xs ++ zs)))
theorem mt_extend : MtM X "list.extend" rExtend := by
 intro pins s σ H x vs v us Q I rx rv h
 obtain ⟨l, b, xs, zs, rfl, rfl, hH, hB, hz, q⟩ := h
 cases rx
 obtain ⟨u, rfl, ru⟩ := rv.one
 cases ru
 obtain ⟨z, its, n, r, hl, e⟩ := I.lstM hH
 obtain ⟨z2, its2, n2, r2, hl2, e2⟩ := I.lstM hB
 have hsz : its.toArray.size + its2.toArray.size ≤ sizeLine := by rw [List.size_toArray, List.size_toArray]; omega
 have hlong : ¬ (!its.toArray.isEmpty && Builtin.List.listTooLong (its.toArray.size + its2.toArray.size)) = true := by
  rw [notLongL hsz, Bool.and_false]
  exact Bool.false_ne_true
 refine call_meets F.slot_list_extend ⟨_, e, rfl⟩ F.entry_list_extend (F.args_list_extend_2 _ _)
  (AutoSeq1.list_extend_list_list_0 l its.toArray n b its2.toArray n2 hlong (by rw [List.size_toArray]; omega) (by omega)) ⟨e, e2, ?_⟩
 refine ⟨.non, _, I.lset (its' := its ++ its2) hH e (by simp) (r.append r2) ?_, rfl, q⟩
 rw [List.length_append]
 omega
def rPop : V → List V → Hp → VK → Prop := fun x vs H Q => ∃ l xs y, x = .ref l ∧ vs = [] ∧ H l = some (.lst xs) ∧ xs[xs.length - 1]? = some y ∧ Q y (upd H l (.lst xs.dropLast))
theorem mt_pop : MtM X "list.pop" rPop := by
 intro pins s σ H x vs v us Q I rx rv h
 obtain ⟨l, xs, y, rfl, rfl, hH, hy, q⟩ := h
 cases rx
 have hus := rv.zero
 subst hus
 obtain ⟨z, its, n, r, hl, e⟩ := I.lstM hH
 obtain ⟨u, hu, ru⟩ := r.get hy
 have hy' : its.toArray[its.toArray.size - 1]? = some u := by
  show its.toArray[its.length - 1]? = some u
  rw [← Array.getElem?_toList, ← hl]
  exact hu
 refine call_meets F.slot_list_pop ⟨_, e, rfl⟩ F.entry_list_pop (F.args_list_pop_1 _) (MeetsSeq.list_pop_last l its.toArray n u hy' (by rw [List.size_toArray]; omega)) ⟨e, ?_⟩
 refine ⟨y, _, I.lset (its' := its.dropLast) hH e ?_ r.dropLast ?_, ru, q⟩
 ·show its.toArray.eraseIdxIfInBounds (its.toArray.size - 1) = its.dropLast.toArray
  rw [List.size_toArray, List.eraseIdxIfInBounds_toArray, erase_last]
 ·rw [List.length_dropLast]
  omega
def rPopAt : V → List V → Hp → VK → Prop := fun x vs H Q => ∃ l xs i k y, x = .ref l ∧ vs = [.int i] ∧ H l = some (.lst xs) ∧ -(2 ^ 63) ≤ i ∧ i < 2 ^ 63 ∧ seqIndex? i xs.length = some k ∧ xs[k]? = some y ∧ Q y (upd H l (.lst (xs.eraseIdx k)))
theorem mt_popAt : MtM X "list.pop" rPopAt := by
 intro pins s σ H x vs v us Q I rx rv h
 obtain ⟨l, xs, i, k, y, rfl, rfl, hH, h1, h2, hk, hy, q⟩ := h
 cases rx
 obtain ⟨u, rfl, ru⟩ := rv.one
 obtain ⟨t, rfl⟩ := ru
 obtain ⟨z, its, n, r, hl, e⟩ := I.lstM hH
 obtain ⟨w, hw, rw'⟩ := r.get hy
 refine call_meets F.slot_list_pop ⟨_, e, rfl⟩ F.entry_list_pop (F.args_list_pop_2 _ _)
  (MeetsSeq.list_pop_at l its.toArray n i t k w (fitsIndex_both h1 h2) (by rw [List.size_toArray, ← hl]; exact hk) (by rw [← Array.getElem?_toList]; exact hw) (by rw [List.size_toArray]; omega)) ⟨e, ?_⟩
 refine ⟨y, _, I.lset (its' := its.eraseIdx k) hH e ?_ (r.eraseIdx k) ?_, rw', q⟩
 ·show its.toArray.eraseIdxIfInBounds k = (its.eraseIdx k).toArray
  rw [List.eraseIdxIfInBounds_toArray]
 ·have := len_erase xs k
  omega
def rCat : R2 := fun x y H Q => ∃ l b xs zs, x = .ref l ∧ y = .ref b ∧ H l = some (.lst xs) ∧ H b = some (.lst zs) ∧ xs.length + zs.length ≤ sizeLine ∧ ∀ p, H p = none → Q (.ref p) (upd H p (.lst (xs ++ zs)))
theorem op_cat : OpR X (binaryOp .Add) rCat := by
 intro pins s σ H x y v u Q I rx ry h
 obtain ⟨l, b, xs, zs, rfl, rfl, hH, hB, hz, q⟩ := h
 cases rx
 cases ry
 obtain ⟨z, its, n, r, hl, e⟩ := I.lstM hH
 obtain ⟨z2, its2, n2, r2, hl2, e2⟩ := I.lstM hB
 refine PySem.P.add_list e e2 ?_ (by rw [List.size_toArray, List.size_toArray]; omega)
 have ea : its.toArray ++ its2.toArray = (its ++ its2).toArray := by simp
 rw [ea]
 exact ⟨.ref _, _, I.lnew (t' := s.toks) (r.append r2) (by rw [List.length_append]; omega), rfl, q _ I.fresh⟩
def rRep : R2 := fun x y H Q => ∃ l k xs, x = .ref l ∧ y = .int k ∧ H l = some (.lst xs) ∧ -(2 ^ 63) ≤ k ∧ k < 2 ^ 63 ∧ xs.length * k.toNat ≤ sizeLine ∧
 ∀ p, H p = none → Q (.ref p) (upd H p (.lst (List.replicate k.toNat xs).flatten))
theorem len_rep {α : Type} (xs : List α) (k : Nat) : (List.replicate k xs).flatten.length = k * xs.length := by
 induction k with
 | zero => simp
 | succ k ih => rw [List.replicate_succ, List.flatten_cons, List.length_append, ih, Nat.succ_mul, Nat.add_comm]
theorem op_rep : OpR X (binaryOp .Mult) rRep := by
 intro pins s σ H x y v u Q I rx ry h
 obtain ⟨l, k, xs, rfl, rfl, hH, h1, h2, hz, q⟩ := h
 cases rx
 obtain ⟨t, rfl⟩ := ry
 obtain ⟨z, its, n, r, hl, e⟩ := I.lstM hH
 have hlen : its.toArray.size * k.toNat ≤ sizeLine := by rw [List.size_toArray, ← hl]; exact hz
 have hcap : ¬ its.toArray.size * k.toNat > (2 ^ 63 - 1) / 8 := by
  have : (sizeLine : Nat) ≤ (2 ^ 63 - 1) / 8 := by decide
  omega
 have hfit : ¬ (!Builtin.List.listFitsIndex k) = true := by
  rw [fitsIndex_both h1 h2]
  exact Bool.false_ne_true
 have hlong : ¬ Builtin.List.listTooLong (its.toArray.size * k.toNat) = true := by
  rw [notLongL hlen]
  exact Bool.false_ne_true
 have hnew : List.foldl (fun x1 x2 => x1 ++ x2) #[] (List.replicate (if its.toArray.isEmpty = true then 0 else k.toNat) its.toArray) = (List.replicate k.toNat its).flatten.toArray := by
  have f0 : ∀ m : Nat, List.foldl (fun x1 x2 => x1 ++ x2) #[] (List.replicate m its.toArray) = (List.replicate m its).flatten.toArray := fun m => by
   have := foldl_rep its m []
   rw [List.nil_append] at this
   exact this
  rw [f0]
  cases its with
  | nil => simp
  | cons a r' => rw [if_neg (by simp)]
 refine wpAny_binaryOp_repeat_ref (T := "list") (U := "int") (by decide) ⟨_, e, rfl⟩ (fun s' => typeIs_int s' k t) noFill_list_mul F.fills_int_mul F.slot_int_rmul repeat_list F.slot_int_index.lookup
  (call_meets F.slot_int_rmul (typeIs_int s k t) F.entry_int_rmul (F.args_int_rmul_2 _ _) (int___rmul___int_list k t l its.toArray n)
   ⟨e, rfl, ⟨_, e, rfl⟩, call_meets F.slot_list_mul ⟨_, e, rfl⟩ F.entry_list_mul (F.args_list_mul_2 _ _) (AutoListH.list___mul___list_int_3 l its.toArray n k t hfit hcap hlong) ⟨e, ?_⟩⟩)
 rw [hnew]
 exact ⟨.ref _, _, I.lnew (t' := s.toks) (r.rep k.toNat) (by rw [len_rep, Nat.mul_comm]; exact hz), rfl, q _ I.fresh⟩
end
section
variable {prog : Program} {w : World} {A : Around} {E : Value → Shared → Prop} {s : Shared}
end
section
variable {X : Cx}
end
end L2
namespace Att
open PySem PySem.W PySem.Calls PyProof.Rows
theorem ints_of_wellAll {P : Params} {h : Heap} : ∀ (ns : List Int) (vs : List Value), WellAll P h vs (ns.map WData.int) → IntsAre vs ns := by
 intro ns
 induction ns with
 | nil =>
  intro vs w
  rw [List.map_nil] at w
  cases w
  exact .nil
 | cons n ns ih =>
  intro vs w
  rw [List.map_cons] at w
  cases w with
  | cons a b =>
   cases a
   exact .cons _ _ (ih _ b)
theorem script_of {l : OpenLaw} {n : Nat} (hn : l.most = some n) {P : Params} {h : Heap} {args : List WData} {vals : List Value}
  (hpre : l.row.toRowW.claim.pre args = true) (hwl : WellAll P h vals args) :
  ∃ a vs ns, vals = [Value.ref a] ∧ args = [WData.list (ns.map WData.int)] ∧ h.get? a = some { cls := .type "list", data := .seq vs.toArray } ∧ IntsAre vs ns ∧ ns.length ≤ n := by
 have hsh : WShape.hasAll [] args [.list .int] = true := (pre_splitW hpre).1
 have hc : l.pre.holds [] { args := args } = true := (pre_splitW hpre).2
 obtain ⟨d, r, rfl, h1, h2⟩ := hasAllW_cons hsh
 obtain rfl := hasAllW_nil h2
 obtain ⟨xs, rfl, h3⟩ := hasW_list h1
 obtain ⟨ns, rfl⟩ := items_int h3
 have hlen : ns.length ≤ n := by
  unfold OpenLaw.pre at hc
  have h4 : (WTm.not (.lt (.lit (.int (n : Int))) (.len (.arg 0)))).holds [] { args := [.list (ns.map .int)] } = true := by
   have h4 := (holds_andW hc).1
   rw [hn] at h4
   exact h4
  have h5 := condW_of h4 (w_not (w_lt w_lit (w_len_list (w_arg rfl))))
  rw [List.length_map] at h5
  refine Nat.le_of_not_lt fun q => ?_
  have q' : (n : Int) < ((ns.length : Nat) : Int) := by omega
  first
   | (rw [decide_eq_true q'] at h5; exact absurd h5 (by decide))
   | (simp at h5; omega)
 cases hwl with
 | cons w1 w2 =>
  cases w2
  cases w1 with
  | list ho hall => exact ⟨_, _, ns, rfl, rfl, ho, ints_of_wellAll ns _ hall, hlen⟩
theorem post_true (l : OpenLaw) (args : List WData) : l.row.toRowW.claim.post args (.bool true) args = true :=
 postW_of (r := l.row.toRowW) (X := (true == true))
  (show WShape.has [] (.bool true) .bool = true by first | rfl | decide | simp [WShape.has, WShape.arms, WShape.armsAll])
  (show (WTm.eq .res (.lit (.bool true))).value [] { args := args, res := some (.bool true), after := args } = some (.bool (true == true)) from w_eq_bool (w_res rfl) w_lit) rfl
theorem attach_call {l : OpenLaw} {n : Nat} {q : Program} {loose : List Str} {XP : (Str → Option Value) → Heap → Prop} {YP : World → Heap → Prop} {d : DefRec}
  (hn : l.most = some n) (hdf : d.params.defaults = [])
  (call : ∀ (w : World) (s₀ s₁ : Shared) (mg mb : Str → Option Value) (fa : Addr) (o : Obj) (pm cd doc : Value) (a : Addr) (vs : List Value) (ns : List Int),
   Ground q loose [] XP w s₀ mg mb s₁.heap → YP w s₁.heap →
   s₁.heap.get? fa = some o → o.data = .func (docDef d.name d.params d.body d.scope pm cd doc) → s₁.heap.CodeRec cd d.name → mg d.name = some (.ref fa) →
   s₁.heap.get? a = some { cls := .type "list", data := .seq vs.toArray } → IntsAre vs ns → ns.length ≤ n → s₁.gens = #[] →
   codeAny (model l.prog w) callerA (.call (.ref fa) ⟨[.ref a], []⟩) (fun r s' => r = .ok (.ret (.bool true)) ∧ OldK s₁.heap s'.heap ∧ s'.os = s₁.os ∧ AllBare s'.gens) s₁) :
  WalkO q loose XP YP l.row.toRowW d [] (fun f vs => PySem.call f vs) := by
 intro w s₀ s₁ mg mb G Y fa o pm cd doc dV kV ho hd hcd hD hmg hg args vals as hpre hlay hrd hwl hlo
 obtain rfl : dV = .none := Dflts.none hD hdf
 obtain rfl : kV = .none := Dflts.noKw hD
 obtain ⟨a, vs, ns, rfl, rfl, hobj, hints, hlen⟩ := script_of hn hpre hwl
 refine enter_call (codeAny_mono (call w s₀ s₁ mg mb fa o pm cd doc a vs ns G Y ho (fd_plain hd) hcd hmg hobj hints hlen hg) fun r s' hq => ?_)
 obtain ⟨rfl, h2, h3, h4⟩ := hq
 exact ⟨.inl ⟨.bool true, .bool true, [], rfl, fun _ => rfl, .bool true, post_true l _, fun _ => ⟨List.Pairwise.nil, fun _ hm => (nomatch hm)⟩⟩, h2, h3, h4⟩
section
variable {prog : Program} {w : World} {A : Around} {E : Value → Shared → Prop} {s : Shared} {K : Frag}
end
end Att
namespace L2
open PySem PySem.Spec PyProof.Rows
theorem vals_ints : ∀ {vs : List Value} {ns : List Int}, IntsAre vs ns → Vals (ns.map V.int) vs
 | _, _, .nil => .nil
 | _, _, .cons n t h => .cons ⟨t, rfl⟩ (vals_ints h)
def Only (H : Hp) : Prop := ∀ b, H b = none ∨ ∃ o xs, H b = some (.frz o (.lst xs))
theorem law_call {P : Program} {w : World} {K : PySem.W.Frag} {mg mb : Str → Option Value} {CX : CXT} {k : Nat} {fa a : Addr} {fd : FuncData} {x : Str} {sp : Sp} {s₁ : Shared} {vs : List Value} {ns : List Int}
  (KX : K.In s₁.heap) (hns : s₁.heap.Ns mainGlobals mg) (hb : s₁.heap.Ns builtinsNs mb) (hbb : ∀ x : Str, x ≠ "__name__" → mb x = bootBuiltins x) (hlim : s₁.heap.NoLimit) (hsys : ∃ mm, s₁.heap.Ns sysModules mm) (hg : s₁.gens = #[])
  (ha : s₁.heap.get? a = some { cls := .type "list", data := .seq vs.toArray }) (hi : IntsAre vs ns) (hl : ns.length ≤ sizeLine) (hr : Room k callerA)
  (F : ∀ base : Heap, K.In base → base.Ns mainGlobals mg → FnOk P w K mg base CX k fa fd [x] sp) (hbind : ∀ (s : Shared) (u : Value), BindsTo s fd ⟨[u], []⟩ [(x, u)])
  (hsp : ∀ H : Hp, Only H → SqL K H a (ns.map V.int) → sp [.ref a] H (fun v _ => v = .bl true) fun _ _ _ => False)
  (hCX : ∀ H e s', CX [] H s₁ (fun _ _ _ => False) e s' → False) :
  codeAny (model P w) callerA (.call (.ref fa) ⟨[.ref a], []⟩) (fun r s' => r = .ok (.ret (.bool true)) ∧ OldK s₁.heap s'.heap ∧ s'.os = s₁.os ∧ AllBare s'.gens) s₁ := by
 have rv := vals_ints hi
 have lenV := hi.length
 have core : ∀ H : Hp, Only H → SqL K H a (ns.map V.int) → HOk P w H s₁.heap → (∀ b, H b ≠ none → b = a) → (H a ≠ none → K.lookup a = none) →
   codeAny (model P w) callerA (.call (.ref fa) ⟨[.ref a], []⟩) (fun r s' => r = .ok (.ret (.bool true)) ∧ OldK s₁.heap s'.heap ∧ s'.os = s₁.os ∧ AllBare s'.gens) s₁ := by
  intro H hO hS hok hA hK
  have base_of : ∀ {b : Addr} {o : Obj}, s₁.heap.get? b = some o → H b = none → (hidT s₁.heap H).get? b = some o := fun e n => hidT_get e n
  have noA : ∀ {b : Addr} {o : Obj} {es : Array DictEntry} {ep : Nat}, s₁.heap.get? b = some o → o.data = .dict es ep → H b = none := fun {b o es ep} e d => by
   cases q : H b with
   | none => rfl
   | some u =>
    have e' : b = a := hA b (by rw [q]; simp)
    subst e'
    rw [ha] at e; cases e
    have d' : Data.seq vs.toArray _ = Data.dict es ep := d
    cases d'
  have nsK : ∀ {b : Addr} {m : Str → Option Value}, s₁.heap.Ns b m → (hidT s₁.heap H).Ns b m := fun {b m} ⟨o, es, ep, e, d, r⟩ => ⟨o, es, ep, base_of e (noA e d), d, r⟩
  have hKb : K.In (hidT s₁.heap H) := fun b o e => base_of (KX b o e) (by
   cases q : H b with
   | none => rfl
   | some u =>
    have e' : b = a := hA b (by rw [q]; simp)
    subst e'
    rw [hK (by rw [q]; simp)] at e; cases e)
  have hM : Mod K mg (hidT s₁.heap H) := ⟨hKb, nsK hns, ⟨mb, nsK hb, hbb⟩, let ⟨mc, h1, h2⟩ := hlim; ⟨mc, nsK h1, h2⟩, let ⟨mm, h1⟩ := hsys; ⟨mm, nsK h1⟩⟩
  have e0 : Env0 P w K mg (hidT s₁.heap H) callerA [] s₁ H := ⟨rfl, hM, fun b o e => of_hidT e, Nat.le_of_eq (hidT_size _ _), trivial, fun b hb => absurd (show b ∈ ([] : List Addr) from hb) (by simp), hok, .of_eq hg⟩
  refine codeAny_mono ((F _ hKb (nsK hns)).run callerA [] s₁ H ⟨[.ref a], []⟩ [.ref a] [.ref a] _ _ hr e0 (hbind s₁ (.ref a)) (.cons rfl .nil) (hsp H hO hS)) fun r s' h => ?_
  cases r with
  | error e => exact (hCX H e s' h).elim
  | ok fl =>
   cases fl with
   | next => exact False.elim h
   | brk => exact False.elim h
   | cont => exact False.elim h
   | ret u =>
    obtain ⟨v, H', os, bare, un, hok', r', q⟩ := h
    have q' : v = .bl true := q
    subst q'
    obtain rfl : u = Value.bool true := r'
    refine ⟨rfl, OldK.of_keep fun b o e => ?_, os, bare⟩
    cases q : H b with
    | none => exact un.keep b o e q (by intro z; exact absurd (show b ∈ ([] : List Addr) from z) (by simp)) (by simp)
    | some u =>
     rcases hO b with z | ⟨ob, xs, z⟩
     ·rw [q] at z; cases z
     ·have z2 := un.frzs b ob _ z
      obtain ⟨e1, _⟩ := hok b _ z
      obtain ⟨e2, _⟩ := hok' b _ z2
      rw [e] at e1; cases e1
      exact e2
 cases hk : K.lookup a with
 | some o =>
  have e := KX a o hk
  rw [ha] at e
  cases e
  refine core (fun _ => none) (fun _ => .inl rfl) (.inr ⟨_, vs.toArray, _, hk, rfl, rfl, rfl, by rw [List.size_toArray, lenV]; exact hl, by simpa using rv⟩) (fun b u z => by have z' : (none : Option HO) = some u := z; cases z') (fun b z => absurd rfl z) fun z => absurd rfl z
 | none =>
  refine core (fun b => if b = a then some (.frz { cls := .type "list", data := .seq vs.toArray } (.lst (ns.map V.int))) else none) (fun b => ?_) (.inl (.inr ⟨{ cls := .type "list", data := .seq vs.toArray }, if_pos rfl⟩)) (fun b u z => ?_) (fun b z => ?_) fun _ => hk
  ·by_cases hb : b = a
   ·exact .inr ⟨_, _, if_pos hb⟩
   ·exact .inl (if_neg hb)
  ·by_cases hb : b = a
   ·have z' := (if_pos hb).symm.trans z
    cases z'
    subst hb
    exact ⟨ha, by rw [List.length_map]; exact hl, vs, _, rv, ha⟩
   ·have z' := (if_neg hb).symm.trans z
    cases z'
  ·by_cases hb : b = a
   ·exact hb
   ·exact absurd (if_neg hb) z
end L2
namespace L2
open PySem PySem.Spec PyProof.Rows
theorem walk_of {l : PySem.W.OpenLaw} {n k : Nat} {q : Program} {loose : List Str} {XP : (Str → Option Value) → Heap → Prop} {YP : World → Heap → Prop} {d : DefRec} {K : Params → PySem.W.Frag} {CX : World → CXT} {sp : World → Sp} {x : Str}
  (hn : l.most = some n) (hn2 : n ≤ sizeLine) (hdf : d.params.defaults = []) (hr : Room k callerA) (hq : importsNone q = true)
  (hY : ∀ (w : World) (h : Heap), YP w h → (K w.params).In h)
  (F : ∀ (w : World) (mg : Str → Option Value) (fa : Addr) (h : Heap), (K w.params).In h → h.Ns mainGlobals mg → mg d.name = some (.ref fa) →
   ∃ fd : FuncData, (∀ (s : Shared) (u : Value), BindsTo s fd ⟨[u], []⟩ [(x, u)]) ∧
    ∀ base : Heap, (K w.params).In base → base.Ns mainGlobals mg → FnOk l.prog w (K w.params) mg base (CX w) k fa fd [x] (sp w))
  (hsp : ∀ (w : World) (H : Hp) (a : Addr) (ns : List Int), ns.length ≤ n → Only H → SqL (K w.params) H a (ns.map V.int) → sp w [.ref a] H (fun v _ => v = .bl true) fun _ _ _ => False)
  (hCX : ∀ (w : World) (H : Hp) (s : Shared) (e : Value) (s' : Shared), CX w [] H s (fun _ _ _ => False) e s' → False) :
  PySem.W.WalkO q loose XP YP l.row.toRowW d [] (fun f vs => PySem.call f vs) := by
 refine Att.attach_call hn hdf fun w s₀ s₁ mg mb fa o pm cd doc a vs ns G Y ho hd hcd hmg hobj hints hlen hg => ?_
 have KX := hY w _ Y
 obtain ⟨fd, hb, hF⟩ := F w mg fa _ KX G.T.g hmg
 exact law_call KX G.T.g G.T.b G.T.builtins G.T.nolimit (let ⟨mm, x, _⟩ := (G.T.seer hq).mods; ⟨mm, x⟩) hg hobj hints (Nat.le_trans hlen hn2) hr hF hb (fun H hO hS => hsp w H a ns hlen hO hS) fun H e s' => hCX w H s₁ e s'
end L2
namespace L2
open PySem PySem.Spec PyProof.Rows
def inClass (s : Stmt) (j : Nat) : Stmt := match s with
 | .ClassDef _ _ _ body _ _ _ _ _ _ _ => body.getD j (.Pass ⟨0, 0, 0, 0⟩)
 | _ => .Pass ⟨0, 0, 0, 0⟩
def defArgs (s : Stmt) : Arguments := match s with
 | .FunctionDef _ a _ _ _ _ _ _ _ _ => a
 | _ => { posonlyargs := [], args := [], vararg := none, kwonlyargs := [], kw_defaults := [], kwarg := none, defaults := [] }
def defBody (s : Stmt) : List Stmt := match s with
 | .FunctionDef _ _ b _ _ _ _ _ _ _ => b
 | _ => []
def defScope (s : Stmt) : Scope := match s with
 | .FunctionDef _ _ _ _ _ _ sc _ _ _ => sc
 | _ => { kind := .function, names := [], isGenerator := false, isCoroutine := false }
abbrev CX0 : CXT := fun _ _ _ _ _ _ => False
abbrev E0 : XK := fun _ _ _ => False
theorem pass0 {X : Cx} : Passes CX0 X E0 := fun _ _ _ _ _ _ _ h => h.elim
structure Fun (K : PySem.W.Frag) (x qual : Str) (st : Stmt) (f : Addr) (fd : FuncData) : Prop where
 ex : ∃ (oc : Value) (od : Option Addr) (kV doc pm : Value) (an : Option Addr) (cdv ct : Value) (osl : Array (Option Value)),
  fd = PySem.W.fnOf x qual (defArgs st) (defBody st) (defScope st) .none kV doc pm an cdv ct ∧ K.lookup f = some ⟨oc, od, .func fd, osl⟩ ∧ PySem.W.codeIn K cdv qual = true
 kp : PySem.W.keepIn K (.ref f) = true
section
variable {P : Program} {w : World} {K : PySem.W.Frag} {mg : Str → Option Value} {base : Heap}
theorem Fun.ok {x qual : Str} {st : Stmt} {f : Addr} {fd : FuncData} {N ps : List Str} {k : Nat} {sp : Sp} (F : Fun K x qual st f fd) (S : FnScope N ps (defScope st)) (len : ∀ vs H Q E, sp vs H Q E → vs.length = ps.length)
  (hbody : ∀ (cdv : Value) (A : Around) (outer : List Env) (s : Shared) (H : Hp) (vs : List V) (Q : VK) (E : XK), Room k (A.deeper (envOfC qual (defScope st) s.heap.objs.size f cdv)) → sp vs H Q E →
   ∃ t, PSs (cxOf CX0 P w K mg base N qual (defScope st) f cdv A outer s H E).nox (defBody st) t ∧ t { nx := fun _ H' => Q .non H', rt := Q } (start N vs) H) : FnOk P w K mg base CX0 (k + 1) f fd ps sp := by
 obtain ⟨oc, od, kV, doc, pm, an, cdv, ct, osl, rfl, lk, hcd⟩ := F.ex
 refine fn_of lk hcd S len fun A outer s H vs Q E hr hsp => ?_
 obtain ⟨t, h, q⟩ := hbody cdv A outer s H vs Q E hr hsp
 exact ⟨t, h.nox, q⟩
theorem Fun.binds {x qual : Str} {st : Stmt} {f : Addr} {fd : FuncData} {ps : List Str} (F : Fun K x qual st f fd)
  (h : ∀ (kV doc pm : Value) (an : Option Addr) (cdv ct : Value) (us : List Value), us.length = ps.length → bindArgs (PySem.W.fnOf x qual (defArgs st) (defBody st) (defScope st) .none kV doc pm an cdv ct) ⟨us, []⟩ = pure (ps.zip us)) : Binds K fd ps [] := by
 obtain ⟨oc, od, kV, doc, pm, an, cdv, ct, osl, rfl, lk, hcd⟩ := F.ex
 exact .all (h kV doc pm an cdv ct)
theorem fun_mk {x qual : Str} {st : Stmt} {f : Addr} {oc : Value} {od an : Option Addr} {osl : Array (Option Value)} {kV doc pm cdv ct : Value} (l : K.lookup f = some ⟨oc, od, .func (PySem.W.fnOf x qual (defArgs st) (defBody st) (defScope st) .none kV doc pm an cdv ct), osl⟩)
  (c : PySem.W.codeIn K cdv qual = true) (k : PySem.W.keepIn K (.ref f) = true) : Fun K x qual st f (PySem.W.fnOf x qual (defArgs st) (defBody st) (defScope st) .none kV doc pm an cdv ct) := ⟨⟨oc, od, kV, doc, pm, an, cdv, ct, osl, rfl, l, c⟩, k⟩
end
section
variable {X : Cx}
end
theorem iteF {A B : Prop} (h : B) : if false = true then A else B := by
 rw [if_neg Bool.false_ne_true]
 exact h
theorem iteT {A B : Prop} (h : A) : if true = true then A else B := by
 rw [if_pos rfl]
 exact h
theorem ite2 {c A B : Prop} [Decidable c] (h1 : c → A) (h2 : ¬ c → B) : if c then A else B := by
 by_cases h : c
 ·rw [if_pos h]
  exact h1 h
 ·rw [if_neg h]
  exact h2 h
def Same (H H' : Hp) : Prop := ∀ b o, H b = some o → H' b = some o
theorem Same.refl (H : Hp) : Same H H := fun _ _ h => h
theorem Same.trans {H H1 H2 : Hp} (a : Same H H1) (b : Same H1 H2) : Same H H2 := fun c o h => b c o (a c o h)
theorem Same.free {H H' : Hp} (e : Same H H') {l : Addr} (h : H' l = Option.none) : H l = Option.none := by
 cases q : H l with
 | none => rfl
 | some o =>
  rw [e l o q] at h
  cases h
theorem Same.seq {K : PySem.W.Frag} {H H' : Hp} {a : Addr} {xs : List V} (e : Same H H') (h : SqL K H a xs) : SqL K H' a xs := by
 rcases h with (h | ⟨o, h⟩) | h
 ·exact .inl (.inl (e _ _ h))
 ·exact .inl (.inr ⟨o, e _ _ h⟩)
 ·exact .inr h
end L2

set_option Elab.async false
set_option linter.all false
set_option maxRecDepth 100000
set_option maxHeartbeats 4000000
namespace L2
open PySem PySem.Spec PyProof.Rows
theorem codeAny_compLoop_any {prog : Program} {w : World} {A : Around} {R : Result → Shared → Prop} {s : Shared} {elt target iter : Expr} {scope : Scope} {pos : Pos} {it acc : Value} {env : Env} (I : Nat → Shared → Prop)
  (turn : ∀ n s, I n s → wpAny (model prog w) A (pyNext it) (fun r s1 => match r with
   | none => R (.ok .next) s1
   | some v => wpAny (model prog w) A (letOwnedTupleGo target it v) (fun _ s1' => wpAny (model prog w) A (assign target env v) (fun _ s2 =>
     wpAny (model prog w) A (eval elt env) (fun x s4 =>
       wpAny (model prog w) A (call (.builtin "list.append") [acc, x]) (fun _ s5 => ∃ m, m < n ∧ I m s5) (notedBy (model prog w) A env fun e s' => R (.error e) s') s4) (notedBy (model prog w) A env fun e s' => R (.error e) s') s2)
     (notedBy (model prog w) A env fun e s' => R (.error e) s') s1') (notedBy (model prog w) A env fun e s' => R (.error e) s') s1) (notedBy (model prog w) A env fun e s' => R (.error e) s') s)
  (n : Nat) (h : I n s) : codeAny (model prog w) A (.compLoop (.ListComp elt [⟨target, iter, [], 0⟩] scope pos) 0 it acc env) R s := by
 refine codeAny_loop rfl I (fun n s hI => ?_) n h
 show wpAny _ A ((compTurn (.ListComp elt [⟨target, iter, [], 0⟩] scope pos) 0 it acc env).onRaise (fun x => do noteFrame x env; theTreesLotGoes x)) _ _ s
 refine wpAny_noted ?_
 rw [compTurn_list]
 refine wpAny_bind (wpAny_standAt (wpAny_bind (wpAny_mono (turn n s hI) (fun r s1 h1 => ?_) fun _ _ h' => h')))
 cases r with
 | none => exact wpAny_pure h1
 | some v =>
  refine wpAny_bind (wpAny_mono h1 (fun _ s1' h1' => ?_) fun _ _ h' => h')
  refine wpAny_bind (wpAny_mono h1' (fun _ s2 h2 => wpAny_bind (wpAny_mono (wpAny_tests_nil (Q := fun ok s3 => ok = true ∧ s3 = s2) ⟨rfl, rfl⟩) (fun ok s3 h3 => ?_) fun _ _ h' => h')) fun _ _ h' => h')
  obtain ⟨rfl, rfl⟩ := h3
  exact wpAny_bind (wpAny_bind (wpAny_mono h2 (fun x s4 h4 => wpAny_bind (wpAny_mono h4 (fun _ s5 h5 => wpAny_pure (wpAny_pure ⟨rfl, h5⟩)) fun _ _ h' => h')) fun _ _ h' => h'))
theorem lookup_relabel {env : Env} : ∀ {names : List (Str × NameKind)} {x : Str},
  (names.map fun (n, k) => if (k == NameKind.free && env.scope.kind == .function && env.kindOf n == some .cell) then (n, NameKind.cell) else (n, k)).lookup x =
   (names.lookup x).map fun k => if (k == NameKind.free && env.scope.kind == .function && env.kindOf x == some .cell) then NameKind.cell else k
 | [], _ => rfl
 | (n, k) :: r, x => by
  have ih := @lookup_relabel env r x
  show List.lookup x ((if (k == NameKind.free && env.scope.kind == .function && env.kindOf n == some .cell) = true then (n, NameKind.cell) else (n, k)) :: _) = _
  cases hx : x == n with
  | true =>
   have e : x = n := eq_of_beq hx
   subst e
   by_cases hc : (k == NameKind.free && env.scope.kind == .function && env.kindOf x == some .cell) = true
   ·rw [if_pos hc]; simp only [List.lookup_cons, hx, Option.map_some, hc, if_true]
   ·rw [if_neg hc]; simp only [List.lookup_cons, hx, Option.map_some, hc]; rfl
  | false =>
   by_cases hc : (k == NameKind.free && env.scope.kind == .function && env.kindOf n == some .cell) = true
   ·rw [if_pos hc]; simp only [List.lookup_cons, hx]; exact ih
   ·rw [if_neg hc]; simp only [List.lookup_cons, hx]; exact ih
def lookOk (n : Nat) (N' N : List Str) (names : List (Str × NameKind)) : Bool :=
 (List.range N.length).all fun i => match N'[n + i]? with
  | none => true
  | some x => (names.lookup x == some .free && N[i]? == some x) || !(names.lookup x == some .local || names.lookup x == some .cell || names.lookup x == some .free)
structure CompScope (n : Nat) (N' : List Str) (X : Cx) (scope : Scope) : Prop where
 kind : scope.kind = .function
 names : ∀ x ∈ scope.names, x.2 = .local → scope.names.lookup x.1 = some .local
 cell : ∀ x ∈ scope.names, x.2 ≠ .cell
 free : ∀ x ∈ scope.names, x.2 = .free → X.env.kindOf x.1 = some .cell ∨ X.env.kindOf x.1 = some .free
 nd : N'.Nodup
 len : N'.length = n + X.N.length
 look : lookOk n N' X.N scope.names = true
theorem closure_ok {scope : Scope} {env : Env} (hh : ∀ x ∈ scope.names, x.2 = .free → ∃ c, env.cells.lookup x.1 = some c) :
  ∃ cl, closureFor scope env = pure cl ∧ (∀ x c, cl.lookup x = some c → env.cells.lookup x = some c) ∧ ∀ x ∈ scope.names, x.2 = .free → ∃ c, cl.lookup x.1 = some c := by
 have all : ∀ (l : List (Str × NameKind)) (cs : List (Str × Addr)), (∀ x ∈ l, x.2 = .free → ∃ c, env.cells.lookup x.1 = some c) → (∀ x c, cs.lookup x = some c → env.cells.lookup x = some c) →
   ∃ cl, (forIn l cs fun (x : Str × NameKind) r => if x.2 == NameKind.free then (do let a ← cellOf env x.1; pure (ForInStep.yield ((x.1, a) :: r))) else pure (ForInStep.yield r) : Sem (List (Str × Addr))) = pure cl ∧
    (∀ x c, cl.lookup x = some c → env.cells.lookup x = some c) ∧ (∀ x ∈ l, x.2 = .free → ∃ c, cl.lookup x.1 = some c) ∧ ∀ x, (∃ c, cs.lookup x = some c) → ∃ c, cl.lookup x = some c := by
  intro l
  induction l with
  | nil => intro cs _ h; exact ⟨cs, rfl, h, (fun _ h => nomatch h), fun _ h => h⟩
  | cons y r ih =>
   intro cs hf h
   obtain ⟨n, k⟩ := y
   by_cases hk : k = .free
   ·subst hk
    obtain ⟨a, ha⟩ := hf (n, .free) List.mem_cons_self rfl
    have h' : ∀ x c, List.lookup x ((n, a) :: cs) = some c → env.cells.lookup x = some c := fun x c e => by
     cases hx : x == n with
     | true =>
      simp only [List.lookup_cons, hx] at e
      have q : x = n := eq_of_beq hx
      subst q
      rw [ha]; exact e
     | false =>
      simp only [List.lookup_cons, hx] at e
      exact h x c e
    obtain ⟨cl, e1, e2, e3, e4⟩ := ih ((n, a) :: cs) (fun x hx => hf x (List.mem_cons_of_mem _ hx)) h'
    refine ⟨cl, ?_, e2, fun x hx hxf => ?_, fun x hx => ?_⟩
    ·rw [List.forIn_cons]
     have e5 : cellOf env n = pure a := by unfold cellOf; rw [ha]
     simp only [beq_self_eq_true, if_true, e5, pure_bind]
     exact e1
    ·rcases List.mem_cons.mp hx with rfl | hx
     ·exact e4 _ ⟨a, by simp [List.lookup_cons]⟩
     ·exact e3 x hx hxf
    ·obtain ⟨c, hc⟩ := hx
     refine e4 x ?_
     cases hx : x == n with
     | true => exact ⟨a, by simp only [List.lookup_cons, hx]⟩
     | false => exact ⟨c, by simp only [List.lookup_cons, hx]; exact hc⟩
   ·obtain ⟨cl, e1, e2, e3, e4⟩ := ih cs (fun x hx => hf x (List.mem_cons_of_mem _ hx)) h
    refine ⟨cl, ?_, e2, fun x hx hxf => ?_, e4⟩
    ·rw [List.forIn_cons]
     have : (k == NameKind.free) = false := by simpa using hk
     simp only [this, Bool.false_eq_true, if_false, pure_bind]
     exact e1
    ·rcases List.mem_cons.mp hx with rfl | hx
     ·exact absurd hxf hk
     ·exact e3 x hx hxf
 obtain ⟨cl, e1, e2, e3, _⟩ := all scope.names [] hh (fun _ _ h => nomatch h)
 refine ⟨cl, ?_, e2, e3⟩
 unfold closureFor
 refine Eq.trans (b := (pure cl >>= fun cs => pure cs)) ?_ rfl
 refine Eq.trans ?_ (congrArg (fun (m : Sem (List (Str × Addr))) => m >>= fun cs => pure cs) e1)
 rfl
def cxComp (X : Cx) (N' : List Str) (scope : Scope) (cl : List (Str × Addr)) (C : Addr) (ex : List Addr) (s : Shared) (H : Hp) : Cx :=
 { X with N := N', s₀ := s, H₀ := H, env := compEnvC scope cl C X.env, outer := X.stack, ex := ex, fn := fun _ => false, pn := [] }
section
variable {X : Cx} {n : Nat} {N' : List Str} {scope : Scope} {elt tg iter : Expr} {pos : Pos} {pins : List (Addr × Obj)} {σ : St} {H2 : Hp} {s2 : Shared} {cl : List (Str × Addr)}
def CompBack (X : Cx) (pins : List (Addr × Obj)) (σ : St) (Q : VK) (acc : Value) (C : Addr) (s' : Shared) : Prop :=
 ∃ (D : Addr) (H' : Hp) (m : Str → Option Value), acc = .ref D ∧ Inv X pins σ H' s' ∧ s'.heap.Ns C m ∧ FpOk X pins H' C ∧ Q (.ref D) H'
theorem comp_inv {C D : Addr} {fp : List Addr} {s' : Shared} {us : List Value} {k : Nat} (S : CompScope n N' X scope) (c1 : ∀ x c, cl.lookup x = some c → X.env.cells.lookup x = some c) (c2 : ∀ x ∈ scope.names, x.2 = .free → ∃ c, cl.lookup x.1 = some c)
  (I2 : Inv X pins σ H2 s2) (f2 : ∀ b ∈ fp, FpOk X pins H2 b) (fl : ∀ b ∈ fp, @LT.lt Nat _ b s2.heap.objs.size) (hD : @Eq Nat D s2.heap.objs.size) (hC : @Eq Nat C (s2.heap.objs.size + 1))
  (ho : s'.os = s2.os) (hg : s'.gens = s2.gens) (old : ∀ b o, s2.heap.get? b = some o → s'.heap.get? b = some o) (hns : ∃ m, s'.heap.Ns C m) (hd : s'.heap.get? D = some { cls := .type "list", data := .seq us.toArray k }) :
  Inv (cxComp X N' scope cl C fp s2 H2) [(D, { cls := .type "list", data := .seq us.toArray k })] (List.replicate n none ++ σ) H2 s' := by
 have frl : ∀ b ∈ frs X.stack, @LT.lt Nat _ b s2.heap.objs.size := fun b hb => by
  obtain ⟨_, o, ho, _⟩ := I2.stack.mem hb
  exact Heap.lt_size ho
 have celll : ∀ x c, cl.lookup x = some c → c < s2.heap.objs.size := fun x c e => by
  obtain ⟨v, q⟩ := I2.cell x c (c1 x c e)
  exact q.lt
 have kOf : ∀ x, (cxComp X N' scope cl C fp s2 H2).env.kindOf x = (scope.names.lookup x).map fun k => if (k == NameKind.free && X.env.scope.kind == .function && X.env.kindOf x == some .cell) then NameKind.cell else k := fun x => lookup_relabel
 have kfree : ∀ x, ((cxComp X N' scope cl C fp s2 H2).env.kindOf x = some .cell ∨ (cxComp X N' scope cl C fp s2 H2).env.kindOf x = some .free) → scope.names.lookup x = some .free := fun x hx => by
  rw [kOf x] at hx
  cases e : scope.names.lookup x with
  | none => rw [e] at hx; rcases hx with hx | hx <;> cases hx
  | some kd =>
   rw [e] at hx
   cases kd with
   | free => rfl
   | «local» => rcases hx with hx | hx <;> (simp at hx)
   | cell => exact absurd rfl (S.cell _ (PySem.mem_of_lookup e))
   | globalExplicit => rcases hx with hx | hx <;> (simp at hx)
   | globalImplicit => rcases hx with hx | hx <;> (simp at hx)
 have hasC : ∀ x, scope.names.lookup x = some .free → ∃ c, cl.lookup x = some c := fun x hx => c2 _ (PySem.mem_of_lookup hx) rfl
 have hH : ∀ a, s2.heap.objs.size ≤ a → H2 a = none := fun a ha => I2.hok.fresh ha
 have ok : (cxComp X N' scope cl C fp s2 H2).Ok := by
  refine ⟨I2.ok.mod, S.kind, I2.ok.glob, I2.ok.blt, ?_, fun x y c h1 h2 => ?_, fun x hx => hasC x (kfree x hx), fun x c h => absurd h (by show ¬ (false = true); decide), I2.ok.hd, I2.ok.frames, .inl rfl, fun b hb => ?_, I2.bs, Nat.le_trans I2.ok.bsz I2.sz, fun b o e hb => ?_, fun b hb z => ?_, I2.stack, I2.stkFree⟩
  ·show s2.heap.objs.size ≤ C
   omega
  ·exact I2.ok.inj x y c (c1 x c h1) (c1 y c h2)
  ·have := fl b hb
   refine ⟨by show @Ne Nat b C; omega, fun x c e z => ?_⟩
   exact (f2 b hb).2.2.2.2.1 x c (c1 x c e) z
  ·obtain ⟨f0, f1, ff, f3, _⟩ := f2 b hb
   rcases f3 with z | z
   ·exact I2.ok.noex b o e z
   ·have q1 : @LT.lt Nat _ b X.base.objs.size := Heap.lt_size e
    have q2 := I2.ok.bsz
    have q3 : @LE.le Nat _ X.s₀.heap.objs.size b := z
    omega
  ·obtain ⟨f0, f1, ff, _⟩ := f2 b hb
   exact (List.mem_cons.mp (I2.stkSub b z)).elim f1 ff
 refine ⟨ok, ho, by rw [hg]; exact I2.bare, Un.kept old, ?_, fun x c e => ?_, ?_, fun x c e => ?_, fun p hp => ?_, I2.hok.kept old, ?_⟩
 ·obtain ⟨m, hn⟩ := hns
  refine ⟨m, hn, fun i x v e1 e2 e3 => ?_⟩
  have e2' : (List.replicate n (none : Option V) ++ σ)[i]? = some (some v) := e2
  have e1' : N'[i]? = some x := e1
  by_cases hi : i < n
  ·rw [List.getElem?_append_left (by simpa using hi), List.getElem?_replicate] at e2'
   split at e2' <;> cases e2'
  ·obtain ⟨j, rfl⟩ : ∃ j, i = n + j := ⟨i - n, by omega⟩
   rw [List.getElem?_append_right (by simp)] at e2'
   simp only [List.length_replicate, Nat.add_sub_cancel_left] at e2'
   have hj : j < X.N.length := by rw [← I2.len]; exact (List.getElem?_eq_some_iff.mp e2').1
   have lk := List.all_eq_true.mp S.look j (List.mem_range.mpr hj)
   rw [e1'] at lk
   have vis : scope.names.lookup x = some .local ∨ scope.names.lookup x = some .cell ∨ scope.names.lookup x = some .free := by
    have e3' : (cxComp X N' scope cl C fp s2 H2).env.kindOf x = some .local ∨ (cxComp X N' scope cl C fp s2 H2).env.kindOf x = some .cell ∨ (cxComp X N' scope cl C fp s2 H2).env.kindOf x = some .free := e3
    rcases e3' with z | z | z
    ·rw [kOf x] at z
     cases e : scope.names.lookup x with
     | none => rw [e] at z; cases z
     | some kd =>
      rw [e] at z
      simp only [Option.map_some] at z
      split at z
      ·cases z
      ·cases z; exact .inl rfl
    ·exact .inr (.inr (kfree x (.inl z)))
    ·exact .inr (.inr (kfree x (.inr z)))
   have lk2 : scope.names.lookup x = some .free ∧ X.N[j]? = some x := by
    simp only [Bool.or_eq_true, Bool.and_eq_true, Bool.not_eq_true', Bool.or_eq_false_iff, beq_iff_eq, beq_eq_false_iff_ne] at lk
    rcases lk with z | z
    ·exact z
    ·rcases vis with q | q | q
     ·exact absurd q z.1.1
     ·exact absurd q z.1.2
     ·exact absurd q z.2
   obtain ⟨m0, hn0, hl0⟩ := I2.loc
   have vX : Vis X.env.scope x := by
    rcases S.free _ (PySem.mem_of_lookup lk2.1) rfl with z | z
    ·exact .inr (.inl z)
    ·exact .inr (.inr z)
   obtain ⟨u, r, l⟩ := hl0 j x v lk2.2 e2' vX
   refine ⟨u, r, .inr ⟨?_, ?_⟩⟩
   ·rw [kOf x, lk2.1]
    simp only [Option.map_some]
    split
    ·exact .inl rfl
    ·exact .inr rfl
   ·obtain ⟨c, hc⟩ := hasC x lk2.1
    refine ⟨c, hc, ?_⟩
    rcases l with ⟨kl, _⟩ | ⟨_, c', hc', z⟩
    ·rcases S.free _ (PySem.mem_of_lookup lk2.1) rfl with q | q <;> (rw [kl] at q; cases q)
    ·have := c1 x c hc
     rw [hc'] at this; cases this
     obtain ⟨oc, hoc, hdc⟩ := z
     exact ⟨oc, old _ _ hoc, hdc⟩
 ·obtain ⟨v, oc, hoc, hdc⟩ := I2.cell x c (c1 x c e)
  exact ⟨v, oc, old _ _ hoc, hdc⟩
 ·exact hH C (by omega)
 ·exact I2.freeC x c (c1 x c e)
 ·have e : p = (D, { cls := .type "list", data := .seq us.toArray k }) := by simpa [cxComp] using hp
  subst e
  refine ⟨hd, hH D (by omega), by show @Ne Nat D C; omega, fun z => ?_, fun v z => by cases z⟩
  have := frl D z
  omega
 ·show (List.replicate n none ++ σ).length = N'.length
  rw [List.length_append, List.length_replicate, S.len, I2.len]
def CompOk (n : Nat) (J : It) (g : TG) (te : TE) (σ : St) (H : Hp) (Q : VK) : Prop :=
 ∃ W : Nat → Nat → List V → St → Hp → Prop, (∃ m, W 0 m [] (List.replicate n none ++ σ) H) ∧ ∀ i m ys σ' H, W i m ys σ' H →
  (J.stop i H ∧ ∀ D, H D = none → Q (.ref D) (upd H D (.lst ys))) ∨
  (J.go i H ∧ ys.length < sizeLine ∧ ∀ x H', J.yld i H x H' → g x σ' H' fun σ2 H2 => ∃ N : VK, te σ2 H2 N ∧ ∀ v H3, N v H3 → ∃ m', m' < m ∧ W (i + 1) m' (ys ++ [v]) σ2 H3)
abbrev InBlock (α : Type) := List (Str × Addr) → Addr → List Addr → Shared → Hp → α
def tComp (n : Nat) (wi : TI) (g : InBlock TG) (te : InBlock TE) : TE := fun σ H Q => wi σ H fun J H1 => ∀ cl C ex s Hc, CompOk n J (g cl C ex s Hc) (te cl C ex s Hc) σ H1 Q
theorem comp_block {it : Addr} {fp : List Addr} {tn : Nat → Heap → Prop} {J : It} {g : InBlock TG} {te : InBlock TE} {Q : VK} {E : Value → Shared → Prop}
  (hE : ∀ v s, ¬ X.xe v s) (hc : X.calm = true) (S : CompScope n N' X scope) (c1 : ∀ x c, cl.lookup x = some c → X.env.cells.lookup x = some c) (c2 : ∀ x ∈ scope.names, x.2 = .free → ∃ c, cl.lookup x.1 = some c)
  (I2 : Inv X pins σ H2 s2) (T : Turn X.prog X.w X.K tg J fp it tn) (st2 : tn 0 s2.heap) (f2 : ∀ b ∈ fp, FpOk X pins H2 b)
  (hg : ∀ cl C ex s H, PG (cxComp X N' scope cl C ex s H) tg (g cl C ex s H)) (he : ∀ cl C ex s H, PE (cxComp X N' scope cl C ex s H) elt (te cl C ex s H))
  (cok : ∀ cl C ex s Hc, CompOk n J (g cl C ex s Hc) (te cl C ex s Hc) σ H2 Q) :
  wpAny (model X.prog X.w) X.A (newList []) (fun acc s3 => wpAny (model X.prog X.w) X.A (newFunctionEnv scope X.env.globals cl [] X.env.qual none .none (some X.env)) (fun cenv s4 =>
   codeAny (model X.prog X.w) X.A (.compStart (.ListComp elt [⟨tg, iter, [], 0⟩] scope pos) 0 (.ref it) acc { cenv with scope := relabel scope X.env })
    (fun r s' => match r with | .ok _ => CompBack X pins σ Q acc cenv.locals s' | .error _ => False) s4) E s3) E s2 := by
 have fl : ∀ b ∈ fp, @LT.lt Nat _ b s2.heap.objs.size := fun b hb => by
  obtain ⟨o, e, _⟩ := T.obj _ _ st2 b hb
  exact Heap.lt_size e
 have frl : ∀ b ∈ frs X.stack, @LT.lt Nat _ b s2.heap.objs.size := fun b hb => by
  obtain ⟨_, o, ho, _⟩ := I2.stack.mem hb
  exact Heap.lt_size ho
 have celll : ∀ x c, X.env.cells.lookup x = some c → @LT.lt Nat _ c s2.heap.objs.size := fun x c e => by
  obtain ⟨v, q⟩ := I2.cell x c e
  exact q.lt
 refine wpAny_newObj_type (wpAny_newFunctionEnv S.cell (by intro y hy; simp at hy) (fun h1 hns1 hsb1 => ?_) S.kind)
 dsimp only at hns1 hsb1 ⊢
 generalize hH2 : s2.heap.push { cls := .type "list", dict := none, data := .seq ([] : List Value).toArray } = G at hns1 hsb1 ⊢
 have hC : @Eq Nat G.objs.size (s2.heap.objs.size + 1) := by rw [← hH2, Heap.size_push]
 have hDC : s2.heap.objs.size ≠ G.objs.size := by show @Ne Nat _ _; omega
 have below : ∀ b, @LT.lt Nat _ b s2.heap.objs.size → b ≠ G.objs.size ∧ b ≠ s2.heap.objs.size := fun b hb => ⟨by show @Ne Nat _ _; omega, Nat.ne_of_lt hb⟩
 have old : ∀ b o, s2.heap.get? b = some o → h1.get? b = some o := fun b o e => hsb1.extBut b o (below b (Heap.lt_size e)).1 (Heap.get?_push_of_some _ (hH2 ▸ Heap.get?_push_of_some _ e))
 have hacc : h1.get? s2.heap.objs.size = some { cls := .type "list", data := .seq ([] : List Value).toArray 0 } := hsb1.extBut _ _ hDC (Heap.get?_push_of_some _ (hH2 ▸ Heap.get?_push_size _ rfl))
 have hst1 : tn 0 h1 := T.keep _ _ _ st2 fun b hb o e => old b o e
 let X' := cxComp X N' scope cl G.objs.size fp s2 H2
 obtain ⟨W, ⟨m0, w0⟩, turn⟩ := cok cl G.objs.size fp s2 H2
 have hXe : X'.xe = X.xe := rfl
 have stat : ∀ {H' : Hp} {ps : List (Addr × Obj)}, (∀ b ∈ fp, H' b = none) → (∀ p ∈ ps, p.1 = s2.heap.objs.size) → ∀ b ∈ fp, FpOk X' ps H' b := fun {H' ps} hn hp b hb => by
  obtain ⟨f0, f1, ff, f3, f4, f5⟩ := f2 b hb
  refine ⟨hn b hb, (below b (fl b hb)).1, fun z => ?_, .inl hb, fun x c e z => ?_, fun p hp' z => ?_⟩
  ·exact (List.mem_cons.mp (I2.stkSub b z)).elim f1 ff
  ·exact f4 x c (c1 x c e) z
  ·have e : p.1 = s2.heap.objs.size := hp p (by simpa [X', cxComp] using hp')
   exact (below b (fl b hb)).2 (z.symm.trans e)
 have loop : ∀ s3 : Shared, s3 = { s2 with heap := h1, toks := s2.toks + ([] : List (Str × Value)).length } →
   codeAny (model X.prog X.w) X.A (.compLoop (.ListComp elt [⟨tg, iter, [], 0⟩] scope pos) 0 (.ref it) (.ref s2.heap.objs.size) (compEnvC scope cl G.objs.size X.env))
    (fun r s' => match r with | .ok _ => CompBack X pins σ Q (.ref s2.heap.objs.size) G.objs.size s' | .error _ => False) s3 := by
  rintro s3 rfl
  have I3 := comp_inv (us := []) (k := 0) (s' := { s2 with heap := h1, toks := s2.toks + ([] : List (Str × Value)).length }) S c1 c2 I2 f2 fl rfl hC rfl rfl old ⟨_, hns1⟩ hacc
  refine codeAny_compLoop_any (fun m s' => ∃ i ys us k σ' H', Inv X' [(s2.heap.objs.size, { cls := .type "list", data := .seq (us : List Value).toArray k })] σ' H' s' ∧ Vals ys us ∧ tn i s'.heap ∧ (∀ b ∈ fp, H' b = none) ∧ ys.length ≤ sizeLine ∧ W i m ys σ' H') ?_ m0
   ⟨0, [], [], 0, _, H2, I3, .nil, hst1, fun b hb => (f2 b hb).1, Nat.zero_le _, w0⟩
  rintro m s' ⟨i, ys, us, k, σ', H', I', rv, st', fr', hlen, w'⟩
  rcases turn i m ys σ' H' w' with ⟨stop, q⟩ | ⟨go, hlt, step⟩
  ·refine thn (T.done X' rfl rfl rfl hc i _ s' σ' H' _ I' (stat fr' (by simp)) st' stop) fun r s4 ⟨hr, I4⟩ => ?_
   subst hr
   show CompBack X pins σ Q (.ref s2.heap.objs.size) G.objs.size s4
   obtain ⟨m1, hn1, _⟩ := I4.loc
   obtain ⟨pD, nD, _, _, _⟩ := I4.pin (s2.heap.objs.size, { cls := .type "list", data := .seq us.toArray k }) (List.mem_append_right _ (by simp))
   have nD : H' s2.heap.objs.size = none := nD
   have pD : s4.heap.get? s2.heap.objs.size = some { cls := .type "list", data := .seq us.toArray k } := pD
   have hok : HOk X.prog X.w (upd H' s2.heap.objs.size (.lst ys)) s4.heap := fun b u e => by
    by_cases hb : b = s2.heap.objs.size
    ·subst hb
     rw [upd_same] at e; cases e
     exact ⟨hlen, us, k, rv, pD⟩
    ·rw [upd_ne hb] at e
     exact (I4.hok b u e).stay (fun _ _ _ q => q) (fun c q => by rw [upd_ne (ne_of_none q nD)]; exact q) fun c xs q => by rw [upd_ne (ne_of_none q nD)]; exact q
   have un : Un (frs X.stack) fp H2 (upd H' s2.heap.objs.size (.lst ys)) s2.heap s4.heap := by
    have u0 := I4.base
    refine ⟨u0.keep, u0.slot, fun b o e n hx => ?_, u0.there, fun b xs e => ?_, fun b o xs e => ?_, fun b ps e => ?_⟩
    ·rw [upd_ne (below b (Heap.lt_size e)).2]; exact u0.free b o e n hx
    ·have q := u0.tups b xs e
     rw [upd_ne (ne_of_none q nD)]; exact q
    ·have q := u0.frzs b o xs e
     rw [upd_ne (ne_of_none q nD)]; exact q
    ·obtain ⟨more, q⟩ := u0.tbls b ps e
     exact ⟨more, by rw [upd_ne (ne_of_none q nD)]; exact q⟩
   have IX : Inv X pins σ (upd H' s2.heap.objs.size (.lst ys)) s4 := I2.call' (ch := fp) I4.os un hok I4.bare fun b hb => by
    obtain ⟨f0, f1, ff, f3, f4, f5⟩ := f2 b hb
    exact ⟨f3, f1, f4, f5⟩
   have hG0 : H' G.objs.size = none := I4.free
   refine ⟨s2.heap.objs.size, _, m1, rfl, IX, hn1, ⟨by rw [upd_ne (Ne.symm hDC)]; exact hG0, fun z => ?_, fun z => ?_, .inr ?_, fun x c e z => ?_, fun p hp z => ?_⟩, q _ nD⟩
   ·have q1 : @LT.lt Nat _ X.env.locals s2.heap.objs.size := I2.lt
    have q2 : @Eq Nat G.objs.size X.env.locals := z
    omega
   ·have z' : G.objs.size ∈ frs X.outer := z
    obtain ⟨_, o, ho, _⟩ := I2.funs.mem z'
    have q1 : @LT.lt Nat _ G.objs.size s2.heap.objs.size := Heap.lt_size ho
    omega
   ·have q1 := I2.sz
    show @LE.le Nat _ X.s₀.heap.objs.size G.objs.size
    omega
   ·have q1 := celll x c e
    have q2 : @Eq Nat c G.objs.size := z
    omega
   ·have q1 : @LT.lt Nat _ p.1 s2.heap.objs.size := Heap.lt_size (I2.pin p hp).1
    have q2 : @Eq Nat p.1 G.objs.size := z
    omega
  ·refine thn (T.item X' rfl rfl rfl hc i _ s' σ' H' _ I' (stat fr' (by simp)) st' go) fun r s4 ⟨u, hr, h4⟩ => ?_
   subst hr
   show wpAny _ _ (letOwnedTupleGo tg (.ref it) u) _ _ s4
   refine thn h4 fun _ s5 ⟨x, H5, I5, r5, y5, st5, fr5⟩ => ?_
   have I5' := I5.pinned (stat fr5 (by simp)) (T.obj _ _ st5)
   have w1 := hg cl G.objs.size fp s2 H2 _ s5 σ' H5 x u _ I5' r5 (step x H5 y5)
   refine wpAny_mono w1 (fun _ s6 ⟨σ6, H6, I6, q6⟩ => ?_) fun v s hv => absurd hv (hE v s)
   obtain ⟨NN, q6, hNN⟩ := q6
   have w2 := he cl G.objs.size fp s2 H2 _ s6 σ6 H6 _ I6 q6
   refine wpAny_mono w2 (fun y s7 ⟨v, H7, I7, r7, q7⟩ => ?_) fun v s hv => absurd hv (hE v s)
   obtain ⟨m', hm', w7⟩ := hNN v H7 q7
   have pinD := I7.pin (s2.heap.objs.size, { cls := .type "list", data := .seq us.toArray k }) (List.mem_append_right _ (List.mem_append_left _ (by simp)))
   obtain ⟨pD, nD, lD, fD, _⟩ := pinD
   refine append_at (hsz := by rw [List.size_toArray, ← rv.length]; exact hlen) pD fun h8 hs8 hD8 => ?_
   have nD : H7 s2.heap.objs.size = none := nD
   have I8 : Inv X' (pinsAt fp s5.heap) σ6 H7 { s7 with heap := h8 } := by
    refine (I7.pins_of (pins' := pinsAt fp s5.heap) fun p hp => I7.pin p (List.mem_append_right _ (List.mem_append_right _ hp))).turned (t' := s7.toks) (it := s2.heap.objs.size) (fun b o hb e => (hs8.2 b hb).trans e) nD lD (.inr (Nat.le_refl _)) (fun x c e z => ?_) fun p hp z => ?_
    ·have q1 := celll x c (c1 x c e)
     have q2 : @Eq Nat c s2.heap.objs.size := z
     omega
    ·have hp' : p ∈ pinsAt fp s5.heap := by simpa [X', cxComp] using hp
     have q1 := fl p.1 (of_pinsAt hp').1
     have q2 : @Eq Nat p.1 s2.heap.objs.size := z
     omega
   have I9 : Inv X' [(s2.heap.objs.size, { cls := .type "list", data := .seq (us ++ [y]).toArray (k + 1) })] σ6 H7 { s7 with heap := h8 } := I8.pins_of fun p hp => by
    have e : p = (s2.heap.objs.size, { cls := .type "list", data := .seq (us ++ [y]).toArray (k + 1) }) := by simpa using hp
    subst e
    refine ⟨by rw [hD8, List.push_toArray], nD, lD, fD, fun v z => by cases z⟩
   refine ⟨m', hm', i + 1, ys ++ [v], us ++ [y], k + 1, σ6, H7, I9, rv.append (.cons r7 .nil), T.keep _ _ _ st5 fun b hb o e => ?_, fun b hb => ?_, by rw [List.length_append, List.length_singleton]; omega, w7⟩
   ·exact (I8.pin (b, o) (List.mem_append_right _ (mem_pinsAt hb e))).1
   ·obtain ⟨o, e, d⟩ := T.obj _ _ st5 b hb
    exact (I8.pin (b, o) (List.mem_append_right _ (mem_pinsAt hb e))).2.1
 exact codeAny_compStart_list (loop _ rfl) (T.self _ 0 _ _ _ hst1 (loop _ rfl))
theorem pe_comp {wi : TI} {g : InBlock TG} {te : InBlock TE} (hE : ∀ v s, ¬ X.xe v s) (hc : X.calm = true) (S : CompScope n N' X scope) (hi : PI X tg iter wi)
  (hg : ∀ cl C ex s H, PG (cxComp X N' scope cl C ex s H) tg (g cl C ex s H)) (he : ∀ cl C ex s H, PE (cxComp X N' scope cl C ex s H) elt (te cl C ex s H))
  (hs : ∀ x, foldedSetIterable iter X.env x = pure x := by intro _; rfl) : PE X (.ListComp elt [⟨tg, iter, [], 0⟩] scope pos) (tComp n wi g te) := by
 intro pins s σ H Q I h
 rw [eval_ListComp]
 obtain ⟨cl, hcl, c1, c2⟩ := closure_ok (scope := scope) (env := X.env) fun x hx hf => I.ok.has x.1 (S.free x hx hf)
 refine wpAny_comprehension_free (use := none) rfl hs hcl S.kind S.names (thn (hi pins s σ H _ I h) fun v s1 h1 => thn h1 fun itv s2 h2 => ?_)
 obtain ⟨it, fp, tn, J, H2, e, I2, T, st2, f2, cok⟩ := h2
 subst e
 refine wpAny_mono (comp_block (pos := pos) (iter := iter) (Q := Q) (E := X.xe) hE hc S c1 c2 I2 T st2 f2 hg he cok) (fun acc s3 h3 => wpAny_mono h3 (fun cenv s4 h4 => codeAny_mono h4 fun r s' hr => ?_) fun _ _ z => z) fun _ _ z => z
 cases r with
 | error e => exact False.elim hr
 | ok f =>
  obtain ⟨D, H', m, rfl, I', hn, ⟨f0, f1, ff, f3, f4, f5⟩, q⟩ := hr
  refine ⟨m, hn, fun h' hs' => ⟨.ref D, H', ?_, rfl, q⟩⟩
  exact I'.turned (t' := s'.toks) (fun b o hb e => (hs'.2 b hb).trans e) f0 f1 f3 f4 f5
theorem ps_setComp {wi : TI} {g : InBlock TG} {te : InBlock TE} {i : Nat} {x : Str} {pos' spos : Pos} (hN : X.N.Nodup) (hi0 : X.N[i]? = some x) (hx : Loc X.env.scope x)
  (hsw : swapsWith (.ListComp elt [⟨tg, iter, [], 0⟩] scope pos) (some (.Name x pos')) spos.line X.env = pure true)
  (hE : ∀ v s, ¬ X.xe v s) (hc : X.calm = true) (S : CompScope n N' X scope) (hi : PI X tg iter wi)
  (hg : ∀ cl C ex s H, PG (cxComp X N' scope cl C ex s H) tg (g cl C ex s H)) (he : ∀ cl C ex s H, PE (cxComp X N' scope cl C ex s H) elt (te cl C ex s H))
  (hs : ∀ x, foldedSetIterable iter X.env x = pure x := by intro _; rfl) (hf : X.fn x = true ∨ X.env.scope.names.lookup x = some .local := by first | exact .inl rfl | exact .inr rfl | assumption) :
  PS X (.Assign [.Name x pos'] (.ListComp elt [⟨tg, iter, [], 0⟩] scope pos) spos) (tAsg (tComp n wi g te) (gName i)) := by
 intro pins s σ H D I h
 rw [exec_Assign_Name_used _ _ _ _ hsw]
 refine wpAny_bind (wpAny_standAt (wpAny_bind ?_))
 obtain ⟨cl, hcl, c1, c2⟩ := closure_ok (scope := scope) (env := X.env) fun x hx hf => I.ok.has x.1 (S.free x hx hf)
 show wpAny _ _ (do let _ ← comprehension (.ListComp elt [⟨tg, iter, [], 0⟩] scope pos) scope X.env _ (newList []) false (eval iter X.env) (some (assign (.Name x pos') X.env))) _ _ s
 refine wpAny_bind (wpAny_mono (wpAny_comprehension_free (use := some (assign (.Name x pos') X.env)) (Q := fun _ s' => SP X pins D .next s') rfl hs hcl S.kind S.names
  (thn (hi pins s σ H _ I h) fun v s1 h1 => thn h1 fun itv s2 h2 => ?_)) (fun _ s' hq => wpAny_pure (wpAny_pure hq)) fun _ _ e => e)
 obtain ⟨it, fp, tn, J, H2, e, I2, T, st2, f2, cok⟩ := h2
 subst e
 refine wpAny_mono (comp_block (pos := pos) (iter := iter) (E := X.xe) (Q := fun x H1 => gName i x σ H1 D.nx) hE hc S c1 c2 I2 T st2 f2 hg he cok) (fun acc s3 h3 => wpAny_mono h3 (fun cenv s4 h4 => codeAny_mono h4 fun r s' hr => ?_) fun _ _ z => z) fun _ _ z => z
 cases r with
 | error e => exact False.elim hr
 | ok f =>
  obtain ⟨Dl, H', m, rfl, I', hn, ⟨f0, f1, ff, f3, f4, f5⟩, q⟩ := hr
  show wpAny _ _ (assign (.Name x pos') X.env (.ref Dl)) _ _ s'
  refine wpAny_assign_Name (store_ok2 I' hN hi0 hx (v := .ref Dl) (u := .ref Dl) rfl (fun s'' I'' hb => ?_) hf)
  obtain ⟨a, sb, ha⟩ := hb
  have hCa : cenv.locals ≠ a := by
   rcases ha with rfl | ha
   ·exact f1
   ·exact fun z => f4 x a ha z.symm
  refine ⟨m, hn.sameBut sb hCa, fun h' hs' => ⟨_, H', ?_, q⟩⟩
  exact I''.turned (t' := s''.toks) (fun b o hb e => (hs'.2 b hb).trans e) f0 f1 f3 f4 f5
end
end L2

set_option Elab.async false
set_option linter.all false
set_option maxRecDepth 100000
set_option maxHeartbeats 4000000
namespace L2
open PySem PySem.Spec PyProof.Rows
section
variable {X : Cx} {tg : Expr}
def Its (z : Str) : It := ⟨fun i _ => i < z.cps.size, fun i H x H' => H' = H ∧ ∃ c, z.cps[i]? = some c ∧ x = .str ⟨#[c]⟩, fun i _ => z.cps.size ≤ i⟩
theorem turn_str {P : Program} {w : World} {K : PySem.W.Frag} {tg : Expr} {T : String} {t : Tok} (it : Addr) (z : Str)
  (hT : T = "str_ascii_iterator" ∨ T = "str_iterator") (W : ∀ A : Around, A.handled = none → Walks P w A it [it] [it] z.cps.size (SignAt z) (fun i h => h.IsStrIter it T z t i)) :
  Turn P w K tg (Its z) [it] it (fun i h => h.IsStrIter it T z t i) where
 mem := by simp
 obj := fun i h st b hb => by
  have e : b = it := by simpa using hb
  subst e
  obtain ⟨o, e, c, d⟩ := st
  exact ⟨o, e, fun v z => by rw [d] at z; cases z⟩
 keep := fun i h h' st k => by
  obtain ⟨o, e, r⟩ := st
  exact ⟨o, k it (by simp) o e, r⟩
 item := by
  intro X hP hw hK hc i pins s σ H E I hf st hg
  subst hP hw hK
  obtain ⟨f0, f1, f2, f3, f4, f5⟩ := hf it (by simp)
  refine (W _ (I.ok.hd hc)).item i s _ _ hg st fun v h' tk hv st' kk => ?_
  obtain ⟨c, u, hcu, rfl⟩ := hv
  have I1 : Inv X pins σ H { s with heap := h', toks := tk } := I.turned (fun b o hb e => kk b o (by simpa using hb) e) f0 f1 f3 f4 f5
  obtain ⟨o, e, cc, d⟩ := id st'
  refine ⟨_, rfl, go_of (s := { s with heap := h', toks := tk }) (n := T) e cc d ?_ ⟨.str ⟨#[c]⟩, H, I1, ⟨u, rfl⟩, ⟨rfl, c, hcu, rfl⟩, st', fun b hb => (hf b hb).1⟩⟩
  rcases hT with rfl | rfl <;> decide
 done := by
  intro X hP hw hK hc i pins s σ H E I hf st hg
  subst hP hw hK
  obtain ⟨f0, f1, f2, f3, f4, f5⟩ := hf it (by simp)
  have hg : z.cps.size ≤ i := hg
  rcases hT with rfl | rfl
  ·exact wpAny_pyNext_ascii_end (I.ok.hd hc) st (by simp; omega) fun h' eb => ⟨rfl, I.turned (t' := s.toks) (fun b o hb e => eb b o hb e) f0 f1 f3 f4 f5⟩
  ·exact wpAny_pyNext_wide_end (I.ok.hd hc) st (by simp; omega) fun h' eb => ⟨rfl, I.turned (t' := s.toks) (fun b o hb e => eb b o hb e) f0 f1 f3 f4 f5⟩
 self := fun A i s Q E st h => by
  rcases hT with rfl | rfl
  ·exact wpAny_pyIter_striter_ascii st h
  ·exact wpAny_pyIter_striter_wide st h
def iStr (tl : TE) : TI := fun σ H R => tl σ H fun x H1 => ∃ z, x = .str z ∧ R (Its z) H1
theorem pi_str {l : Expr} {tl : TE} (hl : PE X l tl) : PI X tg l (iStr tl) := by
 intro pins s σ H R I h
 refine thn (hl pins s σ H _ I h) fun v s1 ⟨x, H1, I1, r1, q1⟩ => ?_
 obtain ⟨z, e, q⟩ := q1
 subst e
 obtain ⟨t, rfl⟩ := r1
 have fin : ∀ (T : String) (o : Obj), (T = "str_ascii_iterator" ∨ T = "str_iterator") → (∀ A : Around, A.handled = none → Walks X.prog X.w A s1.heap.objs.size [s1.heap.objs.size] [s1.heap.objs.size] z.cps.size (SignAt z) (fun i h => h.IsStrIter s1.heap.objs.size T z t i)) →
   (s1.heap.push o).IsStrIter s1.heap.objs.size T z t 0 → PIE X pins σ tg R (.ref s1.heap.objs.size) { s1 with heap := s1.heap.push o } := fun T o hT W st =>
  ⟨s1.heap.objs.size, [s1.heap.objs.size], _, _, H1, rfl, I1.kept (t' := s1.toks) fun b o e => Heap.get?_push_of_some _ e, turn_str _ z hT W, st, fun b hb => by
   have e : b = s1.heap.objs.size := by simpa using hb
   subst e
   exact I1.fpOk (Nat.le_refl _) (I1.hok.fresh (Nat.le_refl _)), q⟩
 cases ha : z.cps.all (· < 128)
 ·exact wpAny_pyIter_wide ha (fin "str_iterator" _ (.inr rfl) (fun A hA => Walks.strWide hA _ z t) ⟨_, Heap.get?_push_size _ rfl, rfl, rfl⟩)
 ·exact wpAny_pyIter_ascii ha (fin "str_ascii_iterator" _ (.inl rfl) (fun A hA => Walks.strAscii hA _ z t) ⟨_, Heap.get?_push_size _ rfl, rfl, rfl⟩)
section forms
variable {J : It} {K : PySem.W.Frag} {a : Addr} {xs : List V} {te : TE} {σ : St} {H : Hp} {Q : VK}
theorem comp_it1 (n : Nat) (Pv : Nat → List V → Hp → Prop) (Vx : Nat → V → Prop) (h0 : Pv 0 [] H) (hz : n ≤ sizeLine) (hgo : ∀ i ys H, i < n → ys.length = i → Pv i ys H → J.go i H ∧ ∀ x H', J.yld i H x H' → H' = H ∧ Vx i x)
  (hstop : ∀ ys H, ys.length = n → Pv n ys H → J.stop n H)
  (hs : ∀ i x ys H, i < n → Vx i x → ys.length = i → Pv i ys H → te (some x :: σ) H fun v H3 => Pv (i + 1) (ys ++ [v]) H3)
  (hd : ∀ ys H, ys.length = n → Pv n ys H → ∀ D, H D = none → Q (.ref D) (upd H D (.lst ys))) : CompOk 1 J (gName 0) te σ H Q := by
 refine ⟨fun i m ys σ' H => m = n - i ∧ i ≤ n ∧ ys.length = i ∧ (∃ o, σ' = o :: σ) ∧ Pv i ys H, ⟨n, by simp, Nat.zero_le _, rfl, ⟨none, rfl⟩, h0⟩, ?_⟩
 rintro i m ys σ' H ⟨rfl, hi, hy, ⟨o, rfl⟩, p⟩
 by_cases hlt : i < n
 ·obtain ⟨g1, g2⟩ := hgo i ys H hlt hy p
  refine .inr ⟨g1, by omega, fun x H' y => ?_⟩
  obtain ⟨e, hx⟩ := g2 x H' y
  subst e
  exact ⟨fun v H3 => Pv (i + 1) (ys ++ [v]) H3, hs i x ys _ hlt hx hy p, fun v H3 h3 => ⟨n - (i + 1), by omega, rfl, hlt, by simp [hy], ⟨_, rfl⟩, h3⟩⟩
 ·obtain rfl : i = n := by omega
  exact .inl ⟨hstop ys H hy p, hd ys H hy p⟩
theorem go_list {i : Nat} (hq : SqL K H a xs) (hlt : i < xs.length) : (Itl K a).go i H ∧ ∀ x H', (Itl K a).yld i H x H' → H' = H ∧ xs[i]? = some x :=
 ⟨⟨xs, xs[i], hq, by simp [hlt]⟩, fun x H' ⟨e, y⟩ => ⟨e, y xs hq⟩⟩
theorem stop_list (hq : SqL K H a xs) : (Itl K a).stop xs.length H := ⟨xs, hq, Nat.le_refl _⟩
theorem go_tup {i : Nat} (hq : SqT K H a xs) (hlt : i < xs.length) : (Itt K a).go i H ∧ ∀ x H', (Itt K a).yld i H x H' → H' = H ∧ xs[i]? = some x :=
 ⟨⟨xs, xs[i], hq, by simp [hlt]⟩, fun x H' ⟨e, y⟩ => ⟨e, y xs hq⟩⟩
theorem stop_tup (hq : SqT K H a xs) : (Itt K a).stop xs.length H := ⟨xs, hq, Nat.le_refl _⟩
theorem go_str {z : Str} {i : Nat} (hlt : i < z.cps.size) : (Its z).go i H ∧ ∀ x H', (Its z).yld i H x H' → H' = H ∧ ∃ c, z.cps[i]? = some c ∧ x = .str ⟨#[c]⟩ := ⟨hlt, fun _ _ y => y⟩
theorem stop_str {z : Str} : (Its z).stop z.cps.size H := Nat.le_refl z.cps.size
end forms
theorem call_allB (hc : X.calm = true) : CallR X (.builtin "all") (fun xs H Q => ∃ (p : Addr) (bs : List Bool), xs = [.ref p] ∧ SqL X.K H p (bs.map V.bl) ∧ Q (.bl (bs.all id)) H) := by
 intro pins s σ H xs us Q I r h
 obtain ⟨p, bs, rfl, hq, q⟩ := h
 obtain ⟨u, rfl, rx⟩ := vals1 r
 cases rx
 obtain ⟨its, r', pl, hz⟩ := I.list hq
 have hlen := r'.length
 rw [List.length_map] at hlen
 have hit : ∀ (i : Nat) (v : Value), its[i]? = some v → ∃ b, bs[i]? = some b ∧ v = Value.bool b := fun i v e => by
  have hi : i < its.length := (List.getElem?_eq_some_iff.mp e).1
  have hb : i < bs.length := by omega
  obtain ⟨u, hu, ru⟩ := r'.get (i := i) (x := V.bl bs[i]) (by simp [hb])
  rw [e] at hu; cases hu
  exact ⟨bs[i], by simp [hb], ru⟩
 refine call_all_walk (wpAny_pyIter_list pl.isList ?_)
 have hp : p < s.heap.objs.size := by obtain ⟨o, n, e, _⟩ := pl; exact Heap.lt_size e
 refine ⟨s.heap.objs.size, [s.heap.objs.size, p], [s.heap.objs.size], its.toArray.size, _, _, fun i => bs.getD i false, rfl, Walks.list (by simpa using I.ok.hd hc) _ p (Nat.ne_of_lt hp) its.toArray, ⟨⟨_, Heap.get?_push_size _ rfl, rfl, rfl⟩, pl.isList.push _⟩, fun i v s Q E hP hQ => ?_, fun h' tk kk => ?_⟩
 ·obtain ⟨b, hb, rfl⟩ := hit i v (by simpa using hP)
  have e : bs.getD i false = b := by simp [List.getD, hb]
  have hQ' : Q (bs.getD i false) s := hQ
  rw [e] at hQ'
  exact wpAny_truthy_bool hQ'
 ·have e : ((List.range its.toArray.size).all fun i => bs.getD i false) = bs.all id := by
   rw [List.size_toArray, ← hlen]
   rw [Bool.eq_iff_iff, List.all_eq_true, List.all_eq_true]
   constructor
   ·intro h b hb
    obtain ⟨i, hi, rfl⟩ := List.mem_iff_getElem.mp hb
    have := h i (List.mem_range.mpr hi)
    simpa [List.getD, hi] using this
   ·intro h i hi
    have hi' := List.mem_range.mp hi
    have := h bs[i] (List.getElem_mem hi')
    simpa [List.getD, hi'] using this
  refine ⟨.bl (bs.all id), H, ?_, by rw [e]; rfl, q⟩
  exact I.kept fun b o eb => kk b o (fun z => Nat.ne_of_lt (Heap.lt_size eb) (by simpa using z)) (Heap.get?_push_of_some _ eb)
end
end L2

set_option Elab.async false
set_option linter.all false
set_option maxRecDepth 100000
set_option maxHeartbeats 8000000
namespace L2
open PySem PySem.Spec PyProof.Rows
def stepS (σ : List Str) (v : Str) : List Str := if σ.any (· == v) then σ else σ ++ [v]
def metS (val : Nat → Str) (i : Nat) : List Str := ((List.range i).map val).foldl stepS []
theorem metS_succ (val : Nat → Str) (i : Nat) : metS val (i + 1) = stepS (metS val i) (val i) := by
 unfold metS; rw [List.range_succ, List.map_append, List.foldl_append]; rfl
theorem metS_length_le (val : Nat → Str) : ∀ i, (metS val i).length ≤ i
 | 0 => Nat.le_refl _
 | i + 1 => by
  rw [metS_succ]; unfold stepS
  have ih := metS_length_le val i
  split
  ·omega
  ·rw [List.length_append, List.length_singleton]; omega
theorem stepS_any (σ : List Str) (v k : Str) : (stepS σ v).any (· == k) = (σ.any (· == k) || decide (k = v)) := by
 unfold stepS
 by_cases h : σ.any (· == v) = true
 ·rw [if_pos h]
  by_cases e : k = v
  ·subst e; rw [h]; simp
  ·simp [e]
 ·rw [if_neg h, List.any_append]
  by_cases e : k = v
  ·subst e; simp
  ·have hb : (v == k) = false := by
    rw [beq_eq_false_iff_ne]; exact fun h' => e h'.symm
   simp [hb, e]
theorem stepS_length (σ : List Str) (v : Str) : (stepS σ v).length = if σ.any (· == v) then σ.length else σ.length + 1 := by
 unfold stepS; split <;> simp
section
variable {prog : Program} {w : World} {A : Around} {R : Result → Shared → Prop} {I : Addr} {fp wr : List Addr} {G : Array GenState → Array GenState → Prop} {n : Nat} {P : Nat → Value → Prop} {St : Nat → Shared → Prop}
theorem set_loopS (W : WalksS prog w A.in1 I fp wr G n P St) (S : Addr) (hSf : S ∉ fp)
  (val : Nat → Str) (hval : ∀ i v, P i v → ∃ t, v = .str (val i) t) (hb : n + 1 < scanBound) :
  ∀ (k i : Nat) (s : Shared), n - i = k → i ≤ n → St i s →
   s.heap.SetOf (PySem.strKind prog w) S (fun k' => (metS val i).any (· == k')) (metS val i).length →
   (∀ s', Moved (S :: wr) G s s' → s'.heap.SetOf (PySem.strKind prog w) S (fun k' => (metS val n).any (· == k')) (metS val n).length → R (.ok (.ret .none)) s') →
   codeAny (model prog w) A (.builtin "set.update.loop" ⟨[.ref S, .ref I], []⟩) R s := by
 have hSw : S ∉ wr := fun h => hSf (W.sub _ h)
 have hsub : ∀ b ∈ wr, b ∈ S :: wr := fun b hb => List.mem_cons_of_mem _ hb
 intro k
 induction k with
 | zero =>
  intro i s hk hi hst hS hR
  have hin : i = n := by omega
  subst hin
  refine codeAny_builtin PyProof.Rows.F.entry_set_update_loop ?_
  rw [Around.under_plainId PyProof.Rows.F.plain_set_update_loop _]
  show wpAny _ A.in1 (pyNext (.ref I) >>= _) _ _ s
  refine wpAny_bind (W.done s _ _ hst fun s' hm => ?_)
  show wpAny _ A.in1 (ret Value.none) _ _ s'
  exact wpAny_pure (hR s' (hm.mono hsub) (by
   obtain ⟨o, es, ep, t, ho, rest⟩ := hS
   exact ⟨o, es, ep, t, hm.heap S _ hSw ho, rest⟩))
 | succ k ih =>
  intro i s hk hi hst hS hR
  have hlt : i < n := by omega
  refine codeAny_builtin PyProof.Rows.F.entry_set_update_loop ?_
  rw [Around.under_plainId PyProof.Rows.F.plain_set_update_loop _]
  show wpAny _ A.in1 (pyNext (.ref I) >>= _) _ _ s
  refine wpAny_bind (W.item i s _ _ hlt hst fun v s' hP hst' hm => ?_)
  obtain ⟨t, rfl⟩ := hval i v hP
  have hS' : s'.heap.SetOf (PySem.strKind prog w) S (fun k' => (metS val i).any (· == k')) (metS val i).length := by
   obtain ⟨o, es, ep, tb, ho, rest⟩ := hS
   exact ⟨o, es, ep, tb, hm.heap S _ hSw ho, rest⟩
  have his : (PySem.strKind prog w).is (val i) (.str (val i) t) = true := by show Value.isStrOf (val i) (.str (val i) t) = true; simp [Value.isStrOf]
  show wpAny _ A.in1 (holding [Value.str (val i) t] (setAdd S (.str (val i) t)) >>= _) _ _ s'
  refine wpAny_bind (wpAny_holding ?_)
  unfold setAdd
  refine wpAny_holding ?_
  refine wpAny_bind ((PySem.strKind prog w).pyHash (k := val i) his ?_)
  have hroom : (metS val i).length + 1 < scanBound := by have := metS_length_le val i; omega
  refine wpAny_setAddHashed_of (knd := PySem.strKind prog w) (s := { s' with toks := s'.toks + 1 }) his rfl hS' hroom fun h' hsb hS2 => ?_
  have hSi : h'.SetOf (PySem.strKind prog w) S (fun k' => (metS val (i + 1)).any (· == k')) (metS val (i + 1)).length :=
   SetOf_congr hS2 (fun k' => by rw [metS_succ, stepS_any]) (by rw [metS_succ, stepS_length])
  refine wpAny_pure ⟨plainId_quiet PyProof.Rows.F.plain_set_update_loop _, ih (i + 1) _ (by omega) hlt (W.frame _ s' _ _ hst' (Nat.le_succ _) fun b hb o e => ?_) hSi fun s'' hm'' hS'' => ?_⟩
  ·rw [hsb.2 b (fun h : b = S => hSf (by rw [← h]; exact hb))]; exact e
  ·refine hR s'' (Moved.trans W.gtrans ((hm.mono hsub).then_heap (Nat.le_succ _) fun b o hb e => ?_) hm'') hS''
   rw [hsb.2 b (fun h : b = S => hb (by rw [h]; exact List.mem_cons_self))]; exact e
end
open Sem (wp)
theorem sub_list_setS : isSubtype (.type "list") (.type "set") = pure false := by rw [isSubtype_type]; kernel_rfl
theorem sub_list_frozensetS : isSubtype (.type "list") (.type "frozenset") = pure false := by rw [isSubtype_type]; kernel_rfl
theorem call_set_listS {prog : Program} {w : World} {A : Around} {E : Value → Shared → Prop} {s : Shared} {l : Addr} {items : Array Value} {val : Nat → Str} {Q : Value → Shared → Prop}
  (hh : A.handled = none) (hl : s.heap.IsList l items) (hi : ∀ (i : Nat) (v : Value), items[i]? = some v → ∃ t, v = .str (val i) t) (hb : items.size + 1 < scanBound)
  (h : ∀ (h' : Heap) (tk : Nat), h'.SetOf (PySem.strKind prog w) s.heap.objs.size (fun k' => (metS val items.size).any (· == k')) (metS val items.size).length →
   (∀ b o, b < s.heap.objs.size → s.heap.get? b = some o → h'.get? b = some o) → Q (.ref s.heap.objs.size) { s with heap := h', toks := tk }) :
  wpAny (model prog w) A (call (.type "set") [.ref l]) Q E s := by
 obtain ⟨c, tl, hmro⟩ := PySem.F.called_set.mro
 have hmade := PySem.F.called_set.made
 have hsub := PySem.F.called_set.sub
 refine wpAny_call (codeAny_of_tree ?_)
 show wpAny _ _ (callAny (.type "set") _) _ _ _
 refine wpAny_pure ⟨Code.quiet_builtin _ (by decide +kernel), codeAny_builtin PySem.F.entry_type_call ?_⟩
 rw [Around.under_plain (weight_type_call_type "set" [.ref l] []) rfl]
 have h1 := PySem.F.called_set.notType
 have h2 := PySem.F.called_set.canCreate
 have hct := PySem.F.typeCall_set_1 (.ref l)
 repeat (any_goals (first | assumption | wp_step))
 refine codeAny_mono (code_set_new_1 (.ref l) (E := E) (Q₁ := fun obj s₁ => ∃ led : Bool, obj = .ref s.heap.objs.size ∧ s₁ = { s with heap := s.heap.push { cls := .type "set", dict := none, data := .set #[] 0 (.fresh 0 0 led) } }) fun led => ⟨led, rfl, rfl⟩) fun r s₁ hr => ?_
 cases r with
 | error e => exact hr
 | ok fl =>
  cases fl with
  | ret obj =>
   obtain ⟨led, rfl, rfl⟩ := hr
   have hS : (s.heap.push { cls := .type "set", dict := none, data := .set #[] 0 (.fresh 0 0 led) }).get? s.heap.objs.size = some { cls := .type "set", dict := none, data := .set #[] 0 (.fresh 0 0 led) } := Heap.get?_push_size _ rfl
   have hT : Shared.TypeIs { s with heap := s.heap.push { cls := .type "set", dict := none, data := .set #[] 0 (.fresh 0 0 led) } } (.ref s.heap.objs.size) "set" := ⟨_, hS, rfl⟩
   have hli := PySem.F.called_set.init.lookup
   have hbi := PySem.F.called_set.init.bind (.ref s.heap.objs.size)
   repeat (any_goals (first | assumption | wp_step))
   refine codeAny_mono (codeAny_call_builtin (R := wants (fun r s₂ => r = .none ∧ ∃ h' tk, s₂ = { s with heap := h', toks := tk } ∧
     h'.SetOf (PySem.strKind prog w) s.heap.objs.size (fun k' => (metS val items.size).any (· == k')) (metS val items.size).length ∧
     (∀ b o, b < s.heap.objs.size → s.heap.get? b = some o → h'.get? b = some o)) E) PySem.F.called_set.init.plain PySem.F.entry_set_init (check_set_init_1 hT ?_)) fun r₂ s₂ hr₂ => ?_
   ·obtain ⟨ol, hol, hcl, nl, hdl⟩ := hl
    obtain ⟨ocls, odict, odata, oslots⟩ := ol
    simp only at hcl hdl
    subst hcl; subst hdl
    have hol' : (s.heap.push { cls := .type "set", dict := none, data := .set #[] 0 (.fresh 0 0 led) }).get? l = some { cls := .type "list", dict := odict, data := .seq items nl, slots := oslots } := Heap.get?_push_of_some _ hol
    have hsls := sub_list_setS
    have hslf := sub_list_frozensetS
    have hne : (Value.type "list" == Value.type "dict") = false := by decide
    have hl1 : (s.heap.push { cls := .type "set", dict := none, data := .set #[] 0 (.fresh 0 0 led) }).IsList l items := ⟨_, hol', rfl, nl, rfl⟩
    unfold Builtin.«set.__init__» noKeywords Builtin.Frozenset.updateFrom
    generalize hPI : pyIter = PI
    wp_walk
    subst hPI
    refine wpAny_pyIter_list hl1 ?_
    refine wpAny_bind (wpAny_runValue ?_)
    have hlS : l < s.heap.objs.size := Heap.lt_size hol
    have hh3 : A.in1.in1.in1.handled = none := by simp [hh]
    have hneI : l ≠ (s.heap.push { cls := .type "set", dict := none, data := .set #[] 0 (.fresh 0 0 led) }).objs.size := by
     rw [Heap.size_push]; exact Nat.ne_of_lt (Nat.lt_succ_of_lt hlS)
    have hSf : s.heap.objs.size ∉ [(s.heap.push { cls := .type "set", dict := none, data := .set #[] 0 (.fresh 0 0 led) }).objs.size, l] := by
     rw [Heap.size_push]; simp only [List.mem_cons, List.mem_singleton, List.not_mem_nil, or_false, not_or]
     exact ⟨Nat.ne_of_lt (Nat.lt_succ_self _), Nat.ne_of_gt hlS⟩
    refine set_loopS ((Walks.list hh3 _ l hneI items).toS) s.heap.objs.size
     hSf val hi hb (items.size - 0) 0 _ (by omega) (Nat.zero_le _)
     ⟨⟨_, Heap.get?_push_size _ rfl, rfl, rfl⟩, (hl1.push _)⟩ ?hS0 ?hR
    case hS0 =>
     have hget : ((s.heap.push { cls := .type "set", dict := none, data := .set #[] 0 (.fresh 0 0 led) }).push { cls := .type "list_iterator", data := .fields #[.ref l, .int 0 0] }).get? s.heap.objs.size
       = some { cls := .type "set", dict := none, data := .set #[] 0 (.fresh 0 0 led) } := Heap.get?_push_of_some _ hS
     exact PyProof.Rows.SetOf_congr ((PyProof.Rows.setObjOf_fresh (knd := PySem.strKind prog w) led).setOf hget (by unfold scanBound; omega)) (fun _ => rfl) rfl
    case hR =>
     intro s' hm hS'
     obtain ⟨h', g', d', tk', os'⟩ := s'
     have eg : g' = s.gens := hm.gens
     have ed : d' = s.drawn := hm.drawn
     have eo : os' = s.os := hm.os
     subst eg; subst ed; subst eo
     show wpAny _ _ _ _ _ _
     refine wpAny_pure ?_
     show wpAny _ _ (ret Value.none) _ _ _
     refine wpAny_pure ⟨rfl, h', tk', rfl, hS', fun b o hb e => ?_⟩
     have hb1 : b ≠ s.heap.objs.size := Nat.ne_of_lt hb
     have hb2 : b ≠ (s.heap.push { cls := .type "set", dict := none, data := .set #[] 0 (.fresh 0 0 led) }).objs.size := by
      rw [Heap.size_push]; exact Nat.ne_of_lt (Nat.lt_succ_of_lt hb)
     exact hm.heap b o (by simp only [List.mem_cons, List.mem_singleton, List.not_mem_nil, or_false, not_or]; exact ⟨hb1, hb2⟩) (Heap.get?_push_of_some _ (Heap.get?_push_of_some _ e))
   ·cases r₂ with
    | error e => exact hr₂
    | ok fl₂ =>
     cases fl₂ with
     | ret r =>
      obtain ⟨rfl, h', tk, rfl, hS', hk'⟩ := hr₂
      repeat (any_goals (first | assumption | wp_step))
      exact h _ _ hS' hk'
     | _ => exact hr₂.elim
  | _ => exact hr.elim
theorem sub_tuple_setS : isSubtype (.type "tuple") (.type "set") = pure false := by rw [isSubtype_type]; kernel_rfl
theorem sub_tuple_frozensetS : isSubtype (.type "tuple") (.type "frozenset") = pure false := by rw [isSubtype_type]; kernel_rfl
theorem call_set_tupleS {prog : Program} {w : World} {A : Around} {E : Value → Shared → Prop} {s : Shared} {l : Addr} {items : Array Value} {val : Nat → Str} {Q : Value → Shared → Prop}
  (hh : A.handled = none) (hl : s.heap.IsTuple l items) (hi : ∀ (i : Nat) (v : Value), items[i]? = some v → ∃ t, v = .str (val i) t) (hb : items.size + 1 < scanBound)
  (h : ∀ (h' : Heap) (tk : Nat), h'.SetOf (PySem.strKind prog w) s.heap.objs.size (fun k' => (metS val items.size).any (· == k')) (metS val items.size).length →
   (∀ b o, b < s.heap.objs.size → s.heap.get? b = some o → h'.get? b = some o) → Q (.ref s.heap.objs.size) { s with heap := h', toks := tk }) :
  wpAny (model prog w) A (call (.type "set") [.ref l]) Q E s := by
 obtain ⟨c, tl, hmro⟩ := PySem.F.called_set.mro
 have hmade := PySem.F.called_set.made
 have hsub := PySem.F.called_set.sub
 refine wpAny_call (codeAny_of_tree ?_)
 show wpAny _ _ (callAny (.type "set") _) _ _ _
 refine wpAny_pure ⟨Code.quiet_builtin _ (by decide +kernel), codeAny_builtin PySem.F.entry_type_call ?_⟩
 rw [Around.under_plain (weight_type_call_type "set" [.ref l] []) rfl]
 have h1 := PySem.F.called_set.notType
 have h2 := PySem.F.called_set.canCreate
 have hct := PySem.F.typeCall_set_1 (.ref l)
 repeat (any_goals (first | assumption | wp_step))
 refine codeAny_mono (code_set_new_1 (.ref l) (E := E) (Q₁ := fun obj s₁ => ∃ led : Bool, obj = .ref s.heap.objs.size ∧ s₁ = { s with heap := s.heap.push { cls := .type "set", dict := none, data := .set #[] 0 (.fresh 0 0 led) } }) fun led => ⟨led, rfl, rfl⟩) fun r s₁ hr => ?_
 cases r with
 | error e => exact hr
 | ok fl =>
  cases fl with
  | ret obj =>
   obtain ⟨led, rfl, rfl⟩ := hr
   have hS : (s.heap.push { cls := .type "set", dict := none, data := .set #[] 0 (.fresh 0 0 led) }).get? s.heap.objs.size = some { cls := .type "set", dict := none, data := .set #[] 0 (.fresh 0 0 led) } := Heap.get?_push_size _ rfl
   have hT : Shared.TypeIs { s with heap := s.heap.push { cls := .type "set", dict := none, data := .set #[] 0 (.fresh 0 0 led) } } (.ref s.heap.objs.size) "set" := ⟨_, hS, rfl⟩
   have hli := PySem.F.called_set.init.lookup
   have hbi := PySem.F.called_set.init.bind (.ref s.heap.objs.size)
   repeat (any_goals (first | assumption | wp_step))
   refine codeAny_mono (codeAny_call_builtin (R := wants (fun r s₂ => r = .none ∧ ∃ h' tk, s₂ = { s with heap := h', toks := tk } ∧
     h'.SetOf (PySem.strKind prog w) s.heap.objs.size (fun k' => (metS val items.size).any (· == k')) (metS val items.size).length ∧
     (∀ b o, b < s.heap.objs.size → s.heap.get? b = some o → h'.get? b = some o)) E) PySem.F.called_set.init.plain PySem.F.entry_set_init (check_set_init_1 hT ?_)) fun r₂ s₂ hr₂ => ?_
   ·obtain ⟨ol, hol, hcl, nl, hdl⟩ := hl
    obtain ⟨ocls, odict, odata, oslots⟩ := ol
    simp only at hcl hdl
    subst hcl; subst hdl
    have hol' : (s.heap.push { cls := .type "set", dict := none, data := .set #[] 0 (.fresh 0 0 led) }).get? l = some { cls := .type "tuple", dict := odict, data := .seq items nl, slots := oslots } := Heap.get?_push_of_some _ hol
    have hsls := sub_tuple_setS
    have hslf := sub_tuple_frozensetS
    have hne : (Value.type "tuple" == Value.type "dict") = false := by decide
    have hl1 : (s.heap.push { cls := .type "set", dict := none, data := .set #[] 0 (.fresh 0 0 led) }).IsTuple l items := ⟨_, hol', rfl, nl, rfl⟩
    unfold Builtin.«set.__init__» noKeywords Builtin.Frozenset.updateFrom
    generalize hPI : pyIter = PI
    wp_walk
    subst hPI
    refine wpAny_pyIter_tuple hl1 ?_
    refine wpAny_bind (wpAny_runValue ?_)
    have hlS : l < s.heap.objs.size := Heap.lt_size hol
    have hh3 : A.in1.in1.in1.handled = none := by simp [hh]
    have hneI : l ≠ (s.heap.push { cls := .type "set", dict := none, data := .set #[] 0 (.fresh 0 0 led) }).objs.size := by
     rw [Heap.size_push]; exact Nat.ne_of_lt (Nat.lt_succ_of_lt hlS)
    have hSf : s.heap.objs.size ∉ [(s.heap.push { cls := .type "set", dict := none, data := .set #[] 0 (.fresh 0 0 led) }).objs.size, l] := by
     rw [Heap.size_push]; simp only [List.mem_cons, List.mem_singleton, List.not_mem_nil, or_false, not_or]
     exact ⟨Nat.ne_of_lt (Nat.lt_succ_self _), Nat.ne_of_gt hlS⟩
    refine set_loopS ((Walks.tuple hh3 _ l hneI items).toS) s.heap.objs.size
     hSf val hi hb (items.size - 0) 0 _ (by omega) (Nat.zero_le _)
     ⟨⟨_, Heap.get?_push_size _ rfl, rfl, rfl⟩, (hl1.push _)⟩ ?hS0 ?hR
    case hS0 =>
     have hget : ((s.heap.push { cls := .type "set", dict := none, data := .set #[] 0 (.fresh 0 0 led) }).push { cls := .type "tuple_iterator", data := .fields #[.ref l, .int 0 0] }).get? s.heap.objs.size
       = some { cls := .type "set", dict := none, data := .set #[] 0 (.fresh 0 0 led) } := Heap.get?_push_of_some _ hS
     exact PyProof.Rows.SetOf_congr ((PyProof.Rows.setObjOf_fresh (knd := PySem.strKind prog w) led).setOf hget (by unfold scanBound; omega)) (fun _ => rfl) rfl
    case hR =>
     intro s' hm hS'
     obtain ⟨h', g', d', tk', os'⟩ := s'
     have eg : g' = s.gens := hm.gens
     have ed : d' = s.drawn := hm.drawn
     have eo : os' = s.os := hm.os
     subst eg; subst ed; subst eo
     show wpAny _ _ _ _ _ _
     refine wpAny_pure ?_
     show wpAny _ _ (ret Value.none) _ _ _
     refine wpAny_pure ⟨rfl, h', tk', rfl, hS', fun b o hb e => ?_⟩
     have hb1 : b ≠ s.heap.objs.size := Nat.ne_of_lt hb
     have hb2 : b ≠ (s.heap.push { cls := .type "set", dict := none, data := .set #[] 0 (.fresh 0 0 led) }).objs.size := by
      rw [Heap.size_push]; exact Nat.ne_of_lt (Nat.lt_succ_of_lt hb)
     exact hm.heap b o (by simp only [List.mem_cons, List.mem_singleton, List.not_mem_nil, or_false, not_or]; exact ⟨hb1, hb2⟩) (Heap.get?_push_of_some _ (Heap.get?_push_of_some _ e))
   ·cases r₂ with
    | error e => exact hr₂
    | ok fl₂ =>
     cases fl₂ with
     | ret r =>
      obtain ⟨rfl, h', tk, rfl, hS', hk'⟩ := hr₂
      repeat (any_goals (first | assumption | wp_step))
      exact h _ _ hS' hk'
     | _ => exact hr₂.elim
  | _ => exact hr.elim
end L2

set_option Elab.async false
set_option linter.all false
set_option maxRecDepth 100000
set_option maxHeartbeats 8000000
namespace L2
open PySem PySem.Spec PyProof.Rows
def SetT (P : Program) (w : World) (p : Addr) (xs : List Str) : HO := HO.ext fun h => h.SetOf (PySem.strKind P w) p (fun k => (xs.foldl stepS []).any (· == k)) (xs.foldl stepS []).length
theorem metS_list (xs : List Str) : metS (fun i => xs.getD i Str.empty) xs.length = xs.foldl stepS [] := by
 unfold metS
 congr 1
 apply List.ext_getElem
 ·simp
 ·intro i h1 h2
  simp [List.getD, h2]
theorem strs_get {xs : List Str} {its : List Value} (r : Vals (xs.map V.str) its) : ∀ (i : Nat) (v : Value), its.toArray[i]? = some v → ∃ t, v = .str (xs.getD i Str.empty) t := fun i v e => by
 have hlen := r.length
 rw [List.length_map] at hlen
 have e : its[i]? = some v := by simpa using e
 have hi : i < its.length := (List.getElem?_eq_some_iff.mp e).1
 have hb : i < xs.length := by omega
 obtain ⟨u, hu, ru⟩ := r.get (i := i) (x := V.str xs[i]) (by simp [hb])
 rw [e] at hu; cases hu
 obtain ⟨t, rfl⟩ := ru
 exact ⟨t, by simp [List.getD, hb]⟩
section
variable {X : Cx}
theorem call_setT (hc : X.calm = true) : CallR X (.type "set") (fun xs H Q => ∃ (p : Addr) (ys : List Str), xs = [.ref p] ∧ (SqL X.K H p (ys.map V.str) ∨ SqT X.K H p (ys.map V.str)) ∧ ys.length + 1 < scanBound ∧ ∀ d, H d = none → Q (.ref d) (upd H d (SetT X.prog X.w d ys))) := by
 intro pins s σ H xs us Q I r h
 obtain ⟨p, ys, rfl, hq, hb, q⟩ := h
 obtain ⟨u, rfl, rx⟩ := vals1 r
 cases rx
 have fin : ∀ (its : List Value), ys.length = its.length → ∀ (h' : Heap) (tk : Nat), h'.SetOf (PySem.strKind X.prog X.w) s.heap.objs.size (fun k' => (metS (fun i => ys.getD i Str.empty) its.toArray.size).any (· == k')) (metS (fun i => ys.getD i Str.empty) its.toArray.size).length →
   (∀ b o, b < s.heap.objs.size → s.heap.get? b = some o → h'.get? b = some o) → EP X pins σ Q (.ref s.heap.objs.size) { s with heap := h', toks := tk } := fun its hl h' tk hS kk => by
  have esz : its.toArray.size = ys.length := by rw [List.size_toArray, hl]
  rw [esz, metS_list] at hS
  refine ⟨.ref s.heap.objs.size, _, I.laid (t' := tk) (fun b o e => kk b o (Heap.lt_size e) e) (Nat.le_refl _) ?_, rfl, q _ (I.hok.fresh (Nat.le_refl _))⟩
  refine ⟨hS, ?_, fun h1 h2 a b => ?_⟩
  ·obtain ⟨o, es, ep, t, ho, _⟩ := hS
   exact ⟨o, ho⟩
  ·obtain ⟨o, es, ep, t, ho, rest⟩ := a
   exact ⟨o, es, ep, t, b o ho, rest⟩
 rcases hq with hq | hq
 ·obtain ⟨its, r', pl, hz⟩ := I.list hq
  have hlen := r'.length
  rw [List.length_map] at hlen
  exact call_set_listS (val := fun i => ys.getD i Str.empty) (I.ok.hd hc) pl.isList (strs_get r') (by rw [List.size_toArray]; omega) (fin its hlen)
 ·obtain ⟨its, r', pl, hz⟩ := I.tuple hq
  have hlen := r'.length
  rw [List.length_map] at hlen
  exact call_set_tupleS (val := fun i => ys.getD i Str.empty) (I.ok.hd hc) pl (strs_get r') (by rw [List.size_toArray]; omega) (fin its hlen)
theorem call_lenT : CallR X (.builtin "len") (fun xs H Q => ∃ (p : Addr) (ys : List Str), xs = [.ref p] ∧ H p = some (SetT X.prog X.w p ys) ∧ Q (.int (ys.foldl stepS []).length) H) := by
 intro pins s σ H xs us Q I r h
 obtain ⟨p, ys, rfl, hp, q⟩ := h
 obtain ⟨u, rfl, rx⟩ := vals1 r
 cases rx
 obtain ⟨hS, _, _⟩ := I.hok p _ hp
 have hS : s.heap.SetOf (PySem.strKind X.prog X.w) p (fun k => (ys.foldl stepS []).any (· == k)) (ys.foldl stepS []).length := hS
 obtain ⟨o, es, ep, t, ho, hex, hd, _, _, hsb, hf, hn⟩ := hS
 refine call_len_set ho hex hd hf (by unfold scanBound at hsb; omega) ⟨.int (ys.foldl stepS []).length, H, I.tok _, ⟨_, by rw [hn]⟩, q⟩
end
theorem foldS_nodup : ∀ (xs σ : List Str), xs.Nodup → (∀ x ∈ xs, ¬ x ∈ σ) → (xs.foldl stepS σ).length = σ.length + xs.length
 | [], σ, _, _ => by simp
 | x :: r, σ, h, hn => by
  obtain ⟨h1, h2⟩ := List.nodup_cons.mp h
  have e : stepS σ x = σ ++ [x] := by
   unfold stepS
   rw [if_neg]
   intro z
   obtain ⟨y, hy, e⟩ := List.any_eq_true.mp z
   exact hn x List.mem_cons_self (by rw [← eq_of_beq e]; exact hy)
  rw [List.foldl_cons, e, foldS_nodup r _ h2 fun y hy z => ?_]
  ·simp; omega
  ·rcases List.mem_append.mp z with q | q
   ·exact hn y (List.mem_cons_of_mem _ hy) q
   ·exact h1 (by rw [← List.mem_singleton.mp q]; exact hy)
section
variable {X : Cx}
mutual
inductive RdsV (H : Hp) : V → PyData → Prop where
 | non : RdsV H .non .none
 | bl (b : Bool) : RdsV H (.bl b) (.bool b)
 | int (i : Int) : RdsV H (.int i) (.int i)
 | str (x : Str) : RdsV H (.str x) (.str x)
 | lst {a : Addr} {xs : List V} {ds : List PyData} : H a = some (.lst xs) → RdsA H xs ds → RdsV H (.ref a) (.list ds)
 | tup {a : Addr} {xs : List V} {ds : List PyData} : H a = some (.tup xs) → RdsA H xs ds → RdsV H (.ref a) (.tuple ds)
inductive RdsA (H : Hp) : List V → List PyData → Prop where
 | nil : RdsA H [] []
 | cons {x : V} {xs : List V} {d : PyData} {ds : List PyData} : RdsV H x d → RdsA H xs ds → RdsA H (x :: xs) (d :: ds)
end
mutual
theorem RdsV.reads {P : Program} {w : World} {H : Hp} {h : Heap} (ok : HOk P w H h) : ∀ {x : V} {d : PyData}, RdsV H x d → ∀ {u : Value}, RelV x u → ∃ as, Reads h u d as
 | _, _, .non, u, r => by cases r; exact ⟨_, .none⟩
 | _, _, .bl b, u, r => by cases r; exact ⟨_, .bool b⟩
 | _, _, .int i, u, r => by obtain ⟨t, rfl⟩ := r; exact ⟨_, .int i t⟩
 | _, _, .str x, u, r => by obtain ⟨t, rfl⟩ := r; exact ⟨_, .str x t⟩
 | _, _, .lst (a := a) e z, u, r => by
  cases r
  obtain ⟨_, its, n, rv, e1⟩ := ok a _ e
  obtain ⟨as, q⟩ := RdsA.reads ok z rv
  exact ⟨_, .list e1 rfl rfl (by simpa using q)⟩
 | _, _, .tup (a := a) e z, u, r => by
  cases r
  obtain ⟨_, its, rv, o, e1, e2, n, e3⟩ := ok a _ e
  obtain ⟨as, q⟩ := RdsA.reads ok z rv
  exact ⟨_, .tuple e1 e2 e3 (by simpa using q)⟩
theorem RdsA.reads {P : Program} {w : World} {H : Hp} {h : Heap} (ok : HOk P w H h) : ∀ {xs : List V} {ds : List PyData}, RdsA H xs ds → ∀ {us : List Value}, Vals xs us → ∃ as, ReadsAll h us ds as
 | _, _, .nil, _, .nil => ⟨_, .nil⟩
 | _, _, .cons a b, _, .cons r t => by
  obtain ⟨as, q1⟩ := RdsV.reads ok a r
  obtain ⟨bs, q2⟩ := RdsA.reads ok b t
  exact ⟨_, .cons q1 q2⟩
end
theorem call_isiT {T : String} : CallR X (.builtin "isinstance") (fun xs H Q => ∃ (x : V) (t : Value) (b : Bool), xs = [x, .ty T] ∧ TyOf X.K H x t ∧ PySem.W.kitOne X.K t (.type T) = some b ∧ Q (.bl b) H) := by
 intro pins s σ H xs us Q I r h
 obtain ⟨x, t, b, rfl, ty, e, q⟩ := h
 obtain ⟨u, u', rfl, rx, ry⟩ := vals2 r
 cases ry
 exact isinst_ok I rx ty e fun tk => ⟨.bl b, H, I.tok tk, rfl, q⟩
theorem isinst_tup {pins : List (Addr × Obj)} {σ : St} {H : Hp} {s : Shared} {A : Around} {E : Value → Shared → Prop} {Q : Value → Shared → Prop} {b : Bool} {x : V} {u t : Value} {tp : Addr} {cs : List Value} (I : Inv X pins σ H s) (rx : RelV x u) (ty : TyOf X.K H x t)
  (htp : ∃ (dd : Option Addr) (n : Nat) (sl : Array (Option Value)), s.heap.get? tp = some ⟨.type "tuple", dd, .seq cs.toArray n, sl⟩) (e : PySem.W.kitAny X.K t cs = some b) (h : ∀ tk, Q (.bool b) { s with toks := tk }) :
  wpAny (model X.prog X.w) A (call (.builtin "isinstance") [u, .ref tp]) Q E s := by
 obtain ⟨dd, n, sl, htp⟩ := htp
 cases ty with
 | non => cases (show u = Value.none from rx); exact PySem.W.kia_tup PySem.W.kitx_none I.kIn True.intro htp e (fun z => nomatch z) h
 | bl y => cases (show u = Value.bool y from rx); exact PySem.W.kia_tup PySem.W.kitx_bool I.kIn True.intro htp e (fun z => nomatch z) h
 | int i => obtain ⟨t, q⟩ := (show ∃ t, u = Value.int i t from rx); cases q; exact PySem.W.kia_tup PySem.W.kitx_int I.kIn True.intro htp e (fun z => nomatch z) h
 | str y => obtain ⟨t, q⟩ := (show ∃ t, u = Value.str y t from rx); cases q; exact PySem.W.kia_tup PySem.W.kitx_str I.kIn True.intro htp e (fun z => nomatch z) h
 | flt y => obtain ⟨t, q⟩ := (show ∃ t, u = Value.float y t from rx); cases q; exact PySem.W.kia_tup PySem.W.kitx_float I.kIn True.intro htp e (fun z => nomatch z) h
 | @lst a xs ea =>
  cases (show u = Value.ref a from rx)
  obtain ⟨_, _, n, _, h1⟩ := (show ObjOk X.prog X.w H s.heap a (.lst xs) from I.hok a _ ea)
  exact PySem.W.kia_tup PySem.W.kitx_list I.kIn ⟨_, h1, rfl⟩ htp e (fun z => nomatch z) h
 | @frz a ob xs ea =>
  cases (show u = Value.ref a from rx)
  obtain ⟨_, _, _, n, _, h1⟩ := (show ObjOk X.prog X.w H s.heap a (.frz ob (.lst xs)) from I.hok a _ ea)
  exact PySem.W.kia_tup PySem.W.kitx_list I.kIn ⟨_, h1, rfl⟩ htp e (fun z => nomatch z) h
 | @tup a xs ea =>
  cases (show u = Value.ref a from rx)
  obtain ⟨_, _, _, p⟩ := (show ObjOk X.prog X.w H s.heap a (.tup xs) from I.hok a _ ea)
  obtain ⟨o, h1, h2, _⟩ := p
  exact PySem.W.kia_tup PySem.W.kitx_tuple I.kIn ⟨o, h1, h2⟩ htp e (fun z => nomatch z) h
 | @dK a kvs ea =>
  cases (show u = Value.ref a from rx)
  obtain ⟨_, _, vs, _, p⟩ := (show ObjOk X.prog X.w H s.heap a (.dK kvs) from I.hok a _ ea)
  obtain ⟨o, es, ep, h1, h2, _⟩ := p
  exact PySem.W.kia_tup PySem.W.kitx_dict I.kIn ⟨o, h1, h2.1⟩ htp e (fun z => nomatch z) h
 | @dT a kvs ea =>
  cases (show u = Value.ref a from rx)
  obtain ⟨_, _, xs, _, o, es, ep, h1, h2, _⟩ := (show ObjOk X.prog X.w H s.heap a (.dT kvs) from I.hok a _ ea)
  exact PySem.W.kia_tup PySem.W.kitx_dict I.kIn ⟨o, h1, h2.1⟩ htp e (fun z => nomatch z) h
 | @ins a C dx fs ea cl ha hn htk hm =>
  cases (show u = Value.ref a from rx)
  obtain ⟨mA, O, _⟩ := ins_get I.hok ea
  obtain ⟨od, J, _⟩ := O.look
  exact PySem.W.kia_tup (PySem.W.kitx_own (cl.get _) cl.hd ha hn htk hm) I.kIn J htp e (fun z => nomatch z) h
theorem call_isi2 {T U : String} : CallR X (.builtin "isinstance") (fun xs H Q => ∃ (x : V) (p : Addr) (t : Value) (b : Bool), xs = [x, .ref p] ∧ H p = some (.tup [.ty T, .ty U]) ∧ TyOf X.K H x t ∧ PySem.W.kitAny X.K t [.type T, .type U] = some b ∧ Q (.bl b) H) := by
 intro pins s σ H xs us Q I r h
 obtain ⟨x, p, t, b, rfl, hp, ty, e, q⟩ := h
 obtain ⟨u, u', rfl, rx, ry⟩ := vals2 r
 cases ry
 obtain ⟨_, its, rv, o, h1, h2, n, h3⟩ := I.hok p _ hp
 obtain ⟨a, b', rfl, ra, rb⟩ := vals2 rv
 cases ra
 cases rb
 refine isinst_tup (cs := [.type T, .type U]) I rx ty ?_ e fun tk => ⟨.bl b, H, I.tok tk, rfl, q⟩
 obtain ⟨oc, od, odt, osl⟩ := o
 cases h2
 cases h3
 exact ⟨od, n, osl, h1⟩
end
end L2

set_option Elab.async false
set_option linter.all false
set_option maxRecDepth 100000
set_option maxHeartbeats 8000000
namespace L2
open PySem PySem.Spec PyProof.Rows
section
variable {X : Cx}
def rCatTT (K : PySem.W.Frag) : R2 := fun x y H Q => ∃ a b xs ys, x = .ref a ∧ y = .ref b ∧ SqT K H a xs ∧ SqT K H b ys ∧ xs.length + ys.length ≤ sizeLine ∧
 (xs = [] → Q (.ref b) H) ∧ (xs ≠ [] → ys = [] → Q (.ref a) H) ∧ (xs ≠ [] → ys ≠ [] → ∀ p, H p = none → Q (.ref p) (upd H p (.tup (xs ++ ys))))
theorem op_catTT : OpR X (binaryOp .Add) (rCatTT X.K) := by
 intro pins s σ H x y v u Q I rx ry h
 obtain ⟨a, b, xs, ys, rfl, rfl, ha, hb, hz, q0, q1, q2⟩ := h
 by_cases hx : xs = []
 ·cases rx
  cases ry
  obtain ⟨its, r1, p1, _⟩ := I.tuple ha
  obtain ⟨its2, r2, p2, _⟩ := I.tuple hb
  obtain ⟨⟨cls, dd, data, sl⟩, ho, hc, n, hd⟩ := id p1
  obtain ⟨⟨cls2, dd2, data2, sl2⟩, ho2, hc2, n2, hd2⟩ := id p2
  simp only at hc hd hc2 hd2
  subst hc hd hc2 hd2
  have e : its = [] := r1.nil_iff.mpr hx
  exact concat_meets ⟨_, ho, rfl⟩ ⟨_, ho2, rfl⟩ noFill_tuple_add seq_tuple_add PySem.F.slot_tuple_add PySem.F.entry_tuple_add (PySem.F.args_tuple_add_2 _ _)
   (tuple_addW0 a b its.toArray its2.toArray n n2 dd dd2 sl sl2 (by simp [e])) ⟨ho, ho2, ⟨.ref b, H, I, rfl, q0 hx⟩⟩
 ·exact op_catT pins s σ H _ _ v u Q I rx ry ⟨a, b, xs, ys, rfl, rfl, ha, hb, hx, hz, q1 hx, q2 hx⟩
theorem bt_len : bootBuiltins "len" = some (.builtin "len") := by decide +kernel
theorem bt_max : bootBuiltins "max" = some (.builtin "max") := by decide +kernel
theorem bt_abs : bootBuiltins "abs" = some (.builtin "abs") := by decide +kernel
theorem bt_divmod : bootBuiltins "divmod" = some (.builtin "divmod") := by decide +kernel
theorem bt_all : bootBuiltins "all" = some (.builtin "all") := by decide +kernel
theorem bt_repr : bootBuiltins "repr" = some (.builtin "repr") := by decide +kernel
theorem bt_isinstance : bootBuiltins "isinstance" = some (.builtin "isinstance") := by decide +kernel
theorem bt_list : bootBuiltins "list" = some (.type "list") := by decide +kernel
theorem bt_tuple : bootBuiltins "tuple" = some (.type "tuple") := by decide +kernel
theorem bt_int : bootBuiltins "int" = some (.type "int") := by decide +kernel
theorem bt_str : bootBuiltins "str" = some (.type "str") := by decide +kernel
theorem bt_set : bootBuiltins "set" = some (.type "set") := by decide +kernel
def Def (P : Program) (w : World) (K : PySem.W.Frag) (mg : Str → Option Value) (base : Heap) (x : Str) (k : Nat) (ps : List Str) (sp : Sp) : Prop :=
 ∃ f fd, mg x = some (.ref f) ∧ PySem.W.keepIn K (.ref f) = true ∧ Binds K fd ps [] ∧ FnOk P w K mg base CX0 k f fd ps sp
theorem pe_def {x : Str} {k : Nat} {ps : List Str} {sp : Sp} {p pos : Pos} {e : Expr} {es : List Expr} {t : TA} (D : Def X.prog X.w X.K X.mg X.base x k ps sp) (hr : Room k X.A) (hg : Gl X x) (ha : PA X (e :: es) t)
  (hdb : (x == ("__debug__" : Str)) = false := by decide) (he : starEach (e :: es) X.env = (false, eval e X.env) :: starEach es X.env := by rfl) (hpl : (backTo pos (starEach es X.env)).any (·.1) = false := by rfl) :
  PE X (.Call (.Name x p) (e :: es) [] pos) (tCall sp [] E0 t) := by
 obtain ⟨f, fd, hm, hk, hb, F⟩ := D
 exact pe_call F hr hg hm hk hb .nil pass0 ha hdb he hpl
structure FunAt (K : PySem.W.Frag) (mg : Str → Option Value) (x : Str) (st : Stmt) (ps : List Str) : Prop where
 ex : ∃ f fd, Fun K x x st f fd ∧ mg x = some (.ref f) ∧ Binds K fd ps []
theorem FunAt.mk' {P : Program} {w : World} {K : PySem.W.Frag} {mg : Str → Option Value} {base : Heap} {x : Str} {st : Stmt} {N ps : List Str} {k : Nat} {sp : Sp} (F : FunAt K mg x st ps) (S : FnScope N ps (defScope st)) (len : ∀ vs H Q E, sp vs H Q E → vs.length = ps.length)
  (hbody : ∀ (f : Addr) (cdv : Value) (A : Around) (outer : List Env) (s : Shared) (H : Hp) (vs : List V) (Q : VK) (E : XK), Room k (A.deeper (envOfC x (defScope st) s.heap.objs.size f cdv)) → sp vs H Q E →
   ∃ t, PSs (cxOf CX0 P w K mg base N x (defScope st) f cdv A outer s H E).nox (defBody st) t ∧ t { nx := fun _ H' => Q .non H', rt := Q } (start N vs) H) : Def P w K mg base x (k + 1) ps sp := by
 obtain ⟨f, fd, Fn, hm, hb⟩ := F.ex
 exact ⟨f, fd, hm, Fn.kp, hb, Fn.ok S len (hbody f)⟩
theorem noxe {X : Cx} : ∀ v s, ¬ (X.nox).xe v s := fun _ _ z => z
def SameX (p : Addr) (H H' : Hp) : Prop := ∀ b o, b ≠ p → H b = some o → H' b = some o
theorem SameX.trans {p : Addr} {H H1 H2 : Hp} (a : SameX p H H1) (b : SameX p H1 H2) : SameX p H H2 := fun c o n h => b c o n (a c o n h)
theorem SameX.refl (p : Addr) (H : Hp) : SameX p H H := fun _ _ _ h => h
theorem SameX.upd (p : Addr) (H : Hp) (o : HO) : SameX p H (upd H p o) := fun b u n h => by rw [upd_ne n]; exact h
theorem same_new {H : Hp} {p : Addr} (h : H p = none) (o : HO) : Same H (upd H p o) := fun b u e => by rw [upd_ne (ne_of_none e h)]; exact e
theorem Same.x {p : Addr} {H H' : Hp} (a : Same H H') : SameX p H H' := fun b o _ h => a b o h
end
theorem SameX.same {p : Addr} {H H1 H2 : Hp} (a : SameX p H H1) (b : Same H1 H2) : SameX p H H2 := fun c o n h => b c o (a c o n h)
theorem SameX.free {p : Addr} {H H' : Hp} (e : SameX p H H') {l : Addr} (n : l ≠ p) (h : H' l = none) : H l = none := by
 cases q : H l with
 | none => rfl
 | some o => rw [e l o n q] at h; cases h
theorem atI_int {α : Type} {xs : List α} {i : Int} {x : α} (h0 : 0 ≤ i) (h : xs[i.toNat]? = some x) : atI xs i = some x := by
 have := atI_nat h
 rwa [Int.toNat_of_nonneg h0] at this
theorem seqIx {n : Nat} {i : Int} (h0 : 0 ≤ i) (h1 : i < n) : seqIndex? i n = some i.toNat := by
 unfold seqIndex?
 simp [show ¬ (i < 0) by omega, h0, h1]
structure CompSc (n : Nat) (N' N : List Str) (osc scope : Scope) : Prop where
 kind : scope.kind = .function
 names : ∀ x ∈ scope.names, x.2 = .local → scope.names.lookup x.1 = some .local
 cell : ∀ x ∈ scope.names, x.2 ≠ .cell
 free : ∀ x ∈ scope.names, x.2 = .free → osc.names.lookup x.1 = some .cell ∨ osc.names.lookup x.1 = some .free
 nd : N'.Nodup
 len : N'.length = n + N.length
 look : lookOk n N' N scope.names = true
theorem CompSc.at {X : Cx} {n : Nat} {N' : List Str} {scope : Scope} (h : CompSc n N' X.N X.env.scope scope) : CompScope n N' X scope := ⟨h.kind, h.names, h.cell, h.free, h.nd, h.len, h.look⟩
end L2

set_option Elab.async false
set_option linter.all false
set_option maxRecDepth 100000
set_option maxHeartbeats 4000000
namespace L2
open PySem PySem.Spec PyProof.Rows
mutual
inductive RdV (R : Addr → Prop) (H : Hp) : V → PyData → Prop where
 | non : RdV R H .non .none
 | bl (b : Bool) : RdV R H (.bl b) (.bool b)
 | int (i : Int) : RdV R H (.int i) (.int i)
 | str (x : Str) : RdV R H (.str x) (.str x)
 | lst {a : Addr} {xs : List V} {ds : List PyData} : R a → H a = some (.lst xs) → RdA R H xs ds → RdV R H (.ref a) (.list ds)
 | tup {a : Addr} {xs : List V} {ds : List PyData} : R a → H a = some (.tup xs) → RdA R H xs ds → RdV R H (.ref a) (.tuple ds)
inductive RdA (R : Addr → Prop) (H : Hp) : List V → List PyData → Prop where
 | nil : RdA R H [] []
 | cons {x : V} {xs : List V} {d : PyData} {ds : List PyData} : RdV R H x d → RdA R H xs ds → RdA R H (x :: xs) (d :: ds)
end
mutual
theorem RdV.mono {R R' : Addr → Prop} {H H' : Hp} (hR : ∀ a, R a → R' a) (hH : ∀ a o, R a → H a = some o → H' a = some o) : ∀ {x : V} {d : PyData}, RdV R H x d → RdV R' H' x d
 | _, _, .non => .non
 | _, _, .bl b => .bl b
 | _, _, .int i => .int i
 | _, _, .str x => .str x
 | _, _, .lst r e z => .lst (hR _ r) (hH _ _ r e) (RdA.mono hR hH z)
 | _, _, .tup r e z => .tup (hR _ r) (hH _ _ r e) (RdA.mono hR hH z)
theorem RdA.mono {R R' : Addr → Prop} {H H' : Hp} (hR : ∀ a, R a → R' a) (hH : ∀ a o, R a → H a = some o → H' a = some o) : ∀ {xs : List V} {ds : List PyData}, RdA R H xs ds → RdA R' H' xs ds
 | _, _, .nil => .nil
 | _, _, .cons a b => .cons (RdV.mono hR hH a) (RdA.mono hR hH b)
end
mutual
theorem RdV.toV {R : Addr → Prop} {H : Hp} : ∀ {x : V} {d : PyData}, RdV R H x d → RdsV H x d
 | _, _, .non => .non
 | _, _, .bl b => .bl b
 | _, _, .int i => .int i
 | _, _, .str x => .str x
 | _, _, .lst r e z => .lst e (RdA.toA z)
 | _, _, .tup r e z => .tup e (RdA.toA z)
theorem RdA.toA {R : Addr → Prop} {H : Hp} : ∀ {xs : List V} {ds : List PyData}, RdA R H xs ds → RdsA H xs ds
 | _, _, .nil => .nil
 | _, _, .cons a b => .cons (RdV.toV a) (RdA.toA b)
end
mutual
def tupOnly : PyData → Bool
 | .list _ => false
 | .tuple ds => tupOnlyA ds
 | _ => true
def tupOnlyA : List PyData → Bool
 | [] => true
 | d :: r => tupOnly d && tupOnlyA r
end
mutual
theorem RdV.monoT {R R' : Addr → Prop} {H H' : Hp} (hR : ∀ a, R a → R' a) (hH : ∀ a xs, H a = some (.tup xs) → H' a = some (.tup xs)) : ∀ {x : V} {d : PyData}, tupOnly d = true → RdV R H x d → RdV R' H' x d
 | _, _, _, .non => .non
 | _, _, _, .bl b => .bl b
 | _, _, _, .int i => .int i
 | _, _, _, .str x => .str x
 | _, _, h, .lst r e z => by simp [tupOnly] at h
 | _, _, h, .tup r e z => .tup (hR _ r) (hH _ _ e) (RdA.monoT hR hH (by simpa [tupOnly] using h) z)
theorem RdA.monoT {R R' : Addr → Prop} {H H' : Hp} (hR : ∀ a, R a → R' a) (hH : ∀ a xs, H a = some (.tup xs) → H' a = some (.tup xs)) : ∀ {xs : List V} {ds : List PyData}, tupOnlyA ds = true → RdA R H xs ds → RdA R' H' xs ds
 | _, _, _, .nil => .nil
 | _, _, h, .cons a b => by
  simp only [tupOnlyA, Bool.and_eq_true] at h
  exact .cons (RdV.monoT hR hH h.1 a) (RdA.monoT hR hH h.2 b)
end
section
variable {R : Addr → Prop} {H H' : Hp} {v : V} {xs ys : List V} {ds es : List PyData} {d : PyData}
theorem RdV.list_inv (h : RdV R H v (.list ds)) : ∃ a xs, v = .ref a ∧ R a ∧ H a = some (.lst xs) ∧ RdA R H xs ds := by cases h with | lst r e z => exact ⟨_, _, rfl, r, e, z⟩
theorem RdV.tuple_inv (h : RdV R H v (.tuple ds)) : ∃ a xs, v = .ref a ∧ R a ∧ H a = some (.tup xs) ∧ RdA R H xs ds := by cases h with | tup r e z => exact ⟨_, _, rfl, r, e, z⟩
theorem RdV.str_inv {x : Str} (h : RdV R H v (.str x)) : v = .str x := by cases h; rfl
theorem RdA.length : ∀ {xs : List V} {ds : List PyData}, RdA R H xs ds → xs.length = ds.length
 | _, _, .nil => rfl
 | _, _, .cons _ t => by rw [List.length_cons, List.length_cons, RdA.length t]
theorem RdA.getV : ∀ {xs : List V} {ds : List PyData} {i : Nat} {x : V}, RdA R H xs ds → xs[i]? = some x → ∃ d, ds[i]? = some d ∧ RdV R H x d
 | _, _, _, _, .nil, h => by simp at h
 | _, _, 0, _, .cons a t, h => by simp at h; subst h; exact ⟨_, rfl, a⟩
 | _, _, i + 1, _, .cons a t, h => by simpa using RdA.getV (i := i) t (by simpa using h)
theorem RdA.append : ∀ {xs ys : List V} {ds es : List PyData}, RdA R H xs ds → RdA R H ys es → RdA R H (xs ++ ys) (ds ++ es)
 | _, _, _, _, .nil, h => h
 | _, _, _, _, .cons a t, h => .cons a (RdA.append t h)
theorem RdA.snoc (h : RdA R H xs ds) (a : RdV R H v d) : RdA R H (xs ++ [v]) (ds ++ [d]) := h.append (.cons a .nil)
theorem RdA.strs : ∀ ws : List Str, RdA R H (ws.map V.str) (ws.map PyData.str)
 | [] => .nil
 | x :: r => .cons (.str x) (RdA.strs r)
theorem RdA.strs_inv : ∀ {ws : List Str} {xs : List V}, RdA R H xs (ws.map PyData.str) → xs = ws.map V.str
 | [], _, .nil => rfl
 | _ :: _, _, .cons a t => by rw [RdV.str_inv a, RdA.strs_inv t]; rfl
theorem RdA.two (h : RdA R H xs [d, e]) : ∃ x y, xs = [x, y] ∧ RdV R H x d ∧ RdV R H y e := by
 cases h with | cons a t => cases t with | cons b t => cases t; exact ⟨_, _, rfl, a, b⟩
theorem RdA.three {f : PyData} (h : RdA R H xs [d, e, f]) : ∃ x y z, xs = [x, y, z] ∧ RdV R H x d ∧ RdV R H y e ∧ RdV R H z f := by
 cases h with | cons a t => cases t with | cons b t => cases t with | cons c t => cases t; exact ⟨_, _, _, rfl, a, b, c⟩
end
end L2

set_option Elab.async false
set_option linter.all false
set_option maxRecDepth 100000
set_option maxHeartbeats 4000000
namespace L2
open PySem PySem.Spec PyProof.Rows
inductive StrConsts : List Expr → List Str → Prop where
 | nil : StrConsts [] []
 | cons {x : Str} {j : Nat} {pos : Pos} {es : List Expr} {ws : List Str} : StrConsts es ws → StrConsts (.Constant (.str x) j pos :: es) (x :: ws)
def tStrs (ws : List Str) : TA := fun _ H Q => Q (ws.map V.str) H
theorem pa_strs {X : Cx} {es : List Expr} {ws : List Str} (h : StrConsts es ws) : PA X es (tStrs ws) := by
 induction h with
 | nil => exact pa_nil
 | cons h ih =>
  rename_i x j pos es ws
  intro pos' pins s σ H Q I hq
  exact pa_cons (te := tC (.str x)) (t := tStrs ws) pe_str ih rfl pos' pins s σ H Q I hq
end L2
namespace L2
open PySem PySem.Spec PyProof.Rows
section
variable {X : Cx}
theorem visL {sc : Scope} {x : Str} (h : sc.names.lookup x = some .local) : Vis sc x := .inl h
theorem visC {sc : Scope} {x : Str} (h : sc.names.lookup x = some .cell) : Vis sc x := .inr (.inl h)
theorem visF {scope : Scope} {env : Env} {x : Str} (h : scope.names.lookup x = some .free) : Vis (relabel scope env) x := by
 have e : (relabel scope env).names.lookup x = _ := lookup_relabel
 rw [h] at e
 simp only [Option.map_some] at e
 split at e
 ·exact .inr (.inl e)
 ·exact .inr (.inr e)
theorem visO {scope : Scope} {env : Env} {x : Str} (h : scope.names.lookup x = some .local) : Vis (relabel scope env) x := .inl (lookup_relabel_local h)
theorem locO {scope : Scope} {env : Env} {x : Str} (h : scope.names.lookup x = some .local) : Loc (relabel scope env) x := .inl (lookup_relabel_local h)
theorem glO {scope : Scope} {env : Env} {x : Str} (h : scope.names.lookup x = some .globalImplicit) : (relabel scope env).names.lookup x = some .globalImplicit := by
 have e : (relabel scope env).names.lookup x = _ := lookup_relabel
 rw [h] at e
 exact e
theorem pq (i : Nat) {x : Str} {pos : Pos} (hv : Vis X.env.scope x) (hd : (x == ("__debug__" : Str)) = false) (hcd : (x == ("__classdict__" : Str)) = false) (hN : X.N[i]? = some x := by rfl) : PE X (.Name x pos) (tVar i) := pe_var hN hv hd hcd
end
end L2

set_option Elab.async false
set_option linter.all false
set_option maxRecDepth 100000
set_option maxHeartbeats 4000000
namespace L2
open PySem PySem.Spec PyProof.Rows
section
variable {P : Program} {w : World} {A : Around} {E : Value → Shared → Prop}
theorem draw_lst {it l : Addr} {its : Array Value} (ne : l ≠ it) (n : Nat) : ∀ (i : Nat) (s : Shared) (Q : List Value → Shared → Prop), s.heap.IsListIter it l i → s.heap.IsList l its → i + n ≤ its.size →
  (∀ h', h'.IsListIter it l (i + n) → Heap.SameBut it s.heap h' → Q ((its.toList.drop i).take n) { s with heap := h' }) → wpAny (model P w) A (draw (.ref it) n) Q E s := by
 induction n with
 | zero =>
  intro i s Q a _ _ q
  have q0 := q s.heap a (Heap.SameBut.refl ..)
  rw [List.take_zero] at q0
  exact wpAny_pure q0
 | succ n ih =>
  intro i s Q a b le q
  have lt : i < its.size := by omega
  refine wpAny_bind (m := pyNext (.ref it)) (wpAny_pyNext_list_item a b (x := its[i]) (by simp [lt]) fun h1 a1 s1 => ?_)
  refine wpAny_bind (wpAny_holding (ih (i + 1) _ _ a1 (b.extBut s1.extBut ne) (by omega) fun h2 a2 s2 => ?_))
  refine wpAny_pure ?_
  have q2 := q h2 (by rw [Nat.add_comm n 1, ← Nat.add_assoc]; exact a2) (s1.trans s2)
  have e : its.toList.drop i = its[i] :: its.toList.drop (i + 1) := by simp [List.drop_eq_getElem_cons, lt]
  rwa [e, List.take_succ_cons] at q2
theorem unpack_lst {s : Shared} {l : Addr} {its : Array Value} {ts : List (Bool × (Value → Sem Unit))} {Q : Unit → Shared → Prop} (hh : A.handled = none) (hl : s.heap.IsList l its) (hn : ts.length = its.size) (hs : ts.findIdx? (·.1) = none)
  (q : ∀ h', Heap.ExtBut s.heap.objs.size s.heap h' → wpAny (model P w) A (assignInOrder (ts.map (·.2)) its.toList) Q E { s with heap := h' }) : wpAny (model P w) A (unpack (.ref l) ts) Q E s := by
 have ne : l ≠ s.heap.objs.size := by
  obtain ⟨o, e, _⟩ := hl
  exact Nat.ne_of_lt (Heap.lt_size e)
 unfold unpack
 rw [hs, hn]
 refine wpAny_bind (wpAny_holding ?_)
 unfold unpackItems notIterableAtAll
 refine wpAny_bind (wpAny_bind (wpAny_specialOf hl.typeIs slot_list_iter.lookup (wpAny_pure ?_)))
 simp only [Bool.false_eq_true, if_false]
 refine wpAny_bind (wpAny_holding (wpAny_pyIter_list hl ?_))
 refine wpAny_bind (wpAny_holding (draw_lst ne its.size 0 _ _ ⟨_, Heap.get?_push_size _ rfl, rfl, rfl⟩ (hl.push _) (by omega) fun h1 a1 s1 => ?_))
 have all : (its.toList.drop 0).take its.size = its.toList := by simp [List.take_of_length_le]
 rw [all, if_neg (by simp)]
 refine wpAny_bind (wpAny_holding (wpAny_pyNext_list_end hh a1 ((hl.push _).extBut s1.extBut ne) (by simp) fun h2 e2 => ?_))
 simp only [Option.isSome_none, Bool.false_eq_true, if_false]
 exact wpAny_pure (q h2 fun b o nb e => e2 b o nb (s1.extBut b o nb (Heap.get?_push_of_some _ e)))
end
section
variable {X : Cx} {pos : Pos}
def gSeq (K : PySem.W.Frag) (n : Nat) (t : TGs) : TG := fun v σ H Q => ∃ a xs, v = .ref a ∧ (SqL K H a xs ∨ SqT K H a xs) ∧ xs.length = n ∧ t xs σ H Q
theorem pg_seq {es : List Expr} {k : Nat} {t : TGs} {n : Nat} (hc : X.calm = true) (h : PGs X es t) (hn : (assignEach es X.env).length = n := by rfl) (hst : (assignEach es X.env).findIdx? (·.1) = none := by rfl) : PG X (.Tuple es k pos) (gSeq X.K n t) := by
 intro pins s σ H v u Q I r hw
 obtain ⟨a, xs, rfl, hq | hq, hl, hw⟩ := hw
 ·cases r
  obtain ⟨its, rv, pl, hz⟩ := I.list hq
  rw [assign_Tuple]
  refine wpAny_bind (wpAny_standAt (unpack_lst (I.ok.hd hc) pl.isList (by simp [hn, ← hl, rv.length]) hst fun h' hx => ?_))
  have I1 : Inv X pins σ H { s with heap := h' } := I.kept (t' := s.toks) fun b o e => hx b o (Nat.ne_of_lt (Heap.lt_size e)) e
  exact h pins _ σ H xs _ Q I1 (by simpa using rv) hw
 ·exact pg_tup hc h hn hst pins s σ H _ u Q I r ⟨a, xs, rfl, hq, hl, hw⟩
end
end L2

set_option Elab.async false
set_option linter.all false
set_option maxRecDepth 100000
set_option maxHeartbeats 4000000
namespace L2
open PySem PySem.Spec PyProof.Rows
structure Loose (X : Cx) (pins : List (Addr × Obj)) (H : Hp) (b : Addr) : Prop where
 un : H b = none
 new : b ∈ X.ex ∨ X.s₀.heap.get? b = none
 loc : b ≠ X.env.locals
 cel : ∀ x c, X.env.cells.lookup x = some c → c ≠ b
 pin : ∀ p ∈ X.pn ++ pins, p.1 ≠ b
section
variable {X : Cx} {pins : List (Addr × Obj)} {σ : List (Option V)} {H : Hp} {s : Shared} {h' : Heap}
theorem Inv.fly {t' : Nat} {S : List Addr} (I : Inv X pins σ H s) (hS : ∀ b ∈ S, Loose X pins H b) (kp : ∀ b o, s.heap.get? b = some o → b ∉ S → b ∉ frs X.stack → h'.get? b = some o)
  (sl : ∀ b o, s.heap.get? b = some o → b ∈ frs X.stack → ∃ w, h'.get? b = some { o with slots := w }) : Inv X pins σ H { s with heap := h', toks := t' } := by
 have nS : ∀ b u, H b = some u → b ∉ S := fun b u e z => by rw [(hS b z).un] at e; cases e
 have nF : ∀ b u, H b = some u → b ∉ frs X.stack := fun b u e z => by rw [I.stkFree b z] at e; cases e
 have neL : ∀ b o, X.s₀.heap.get? b = some o → b ≠ X.env.locals := fun b o e => Nat.ne_of_lt (Nat.lt_of_lt_of_le (Heap.lt_size e) I.ok.above)
 have neC : ∀ b o, X.s₀.heap.get? b = some o → b ∉ X.ex → b ∉ S := fun b o e hx hb => by
  rcases (hS b hb).new with z | z
  ·exact hx z
  ·rw [z] at e; cases e
 have stkL : ∀ b, b ∈ frs X.stack → b ≠ X.env.locals → b ∈ X.fs := fun b hb n => (List.mem_cons.mp (I.stkSub b hb)).elim (fun z => absurd z n) id
 have any : ∀ b o, s.heap.get? b = some o → b ∉ S → ∃ w, h'.get? b = some { o with slots := w } := fun b o e n => by
  by_cases hb : b ∈ frs X.stack
  ·exact sl b o e hb
  ·exact ⟨o.slots, kp b o e n hb⟩
 have cellK : ∀ x c, X.env.cells.lookup x = some c → ∀ v, s.heap.IsCell c v → h'.IsCell c v := fun x c e v ⟨o, ho, hd⟩ => by
  obtain ⟨w, q⟩ := any c o ho fun z => (hS c z).cel x c e rfl
  exact ⟨_, q, hd⟩
 refine ⟨I.ok, I.os, I.bare, ⟨fun b o e n hb hx => ?_, fun b o e n hb hx => ?_, fun b o e n hx => I.base.free b o e n hx, fun b o e hx => ?_, I.base.tups, I.base.frzs, I.base.tbls⟩, ?_, fun x c e => ?_, I.free, I.freeC, fun p hp => ?_, fun b u e => ?_, I.len⟩
 ·exact kp b o (I.base.keep b o e n hb hx) (neC b o e hx) fun z => hb (stkL b z (neL b o e))
 ·obtain ⟨w, e1⟩ := I.base.slot b o e n hb hx
  obtain ⟨w', e2⟩ := any b _ e1 (neC b o e hx)
  exact ⟨w', e2⟩
 ·obtain ⟨o', e1⟩ := I.base.there b o e hx
  obtain ⟨w, e2⟩ := any b o' e1 (neC b o e hx)
  exact ⟨_, e2⟩
 ·obtain ⟨m, ⟨o, es, ep, ho, r⟩, hl⟩ := I.loc
  obtain ⟨w, q⟩ := any _ o ho fun z => (hS _ z).loc rfl
  refine ⟨m, ⟨_, es, ep, q, r⟩, fun i x v e1 e2 e3 => ?_⟩
  obtain ⟨u, r, l⟩ := hl i x v e1 e2 e3
  refine ⟨u, r, ?_⟩
  rcases l with l | ⟨k, c, e, z⟩
  ·exact .inl l
  ·exact .inr ⟨k, c, e, cellK x c e _ z⟩
 ·obtain ⟨v, z⟩ := I.cell x c e
  exact ⟨v, cellK x c e v z⟩
 ·obtain ⟨e, n, ne, nf, d⟩ := I.pin p hp
  exact ⟨kp p.1 p.2 e (fun z => (hS p.1 z).pin p hp rfl) fun z => nf (stkL _ z ne), n, ne, nf, d⟩
 ·refine (I.hok b u e).stay (fun c v hc q => ?_) (fun _ q => q) fun _ _ q => q
  rcases hc with z | z
  ·subst z; exact kp _ v q (nS _ u e) (nF _ u e)
  ·exact kp c v q (nS c _ z) (nF c _ z)
end
inductive Exc (h : Heap) (a : Addr) (cls : Value) : Option Value → List Addr → Prop where
 | made {oe : Obj} {vs : Array Value} {a0 : Value} : h.get? a = some oe → oe.cls = cls → oe.data = .fields vs → vs[0]? = some a0 → vs[1]? = some .none → Exc h a cls none [a]
 | ent {oe oT : Obj} {vs ts : Array Value} {a0 fl : Value} {T : Addr} : h.get? a = some oe → oe.cls = cls → oe.data = .fields vs → vs[0]? = some a0 → vs[1]? = some (.ref T) → T ≠ a → h.get? T = some oT → oT.data = .fields ts → ts[3]? = some fl → Exc h a cls (some fl) [a, T]
def XEk (p : Option Value → Addr → Prop) (X : Cx) (E : XK) : Value → Shared → Prop := fun e s => ∃ (a L : Addr) (cls : Value) (σ : St) (H : Hp) (fl : Option Value) (S : List Addr) (env0 : Env) (rest : List Env), e = .ref a ∧ X.stack = env0 :: rest ∧ env0.frame = some L ∧ X.env.frame = some L ∧
 Inv X [] σ H s ∧ Exc s.heap a cls fl S ∧ p fl L ∧ (∀ b ∈ S, Loose X [] H b) ∧ E cls none H
def XE : Cx → XK → Value → Shared → Prop := XEk fun _ _ => True
def XHeld : Cx → XK → Value → Shared → Prop := XEk fun fl L => fl = some (rawInt L)
def XFly : Cx → XK → Value → Shared → Prop := XEk fun fl L => fl = some .none
theorem XEk.imp {p q : Option Value → Addr → Prop} {X : Cx} {E : XK} {e : Value} {s : Shared} (h : XEk p X E e s) (k : ∀ fl L, p fl L → q fl L) : XEk q X E e s := by
 obtain ⟨a, L, cls, σ, H, fl, S, env0, rest, h1, h2, h3, h4, h5, h6, h7, h8⟩ := h
 exact ⟨a, L, cls, σ, H, fl, S, env0, rest, h1, h2, h3, h4, h5, h6, k _ _ h7, h8⟩
theorem XHeld.xe {X : Cx} {E : XK} {e : Value} {s : Shared} (h : XHeld X E e s) : XE X E e s := XEk.imp h fun _ _ _ => trivial
theorem noteFrame_congr {e : Value} {env env' : Env} (h : env.frame = env'.frame) : noteFrame e env = noteFrame e env' := by
 unfold noteFrame PySem.frameOf
 rw [h]
section
variable {P : Program} {w : World} {H : Hp} {h : Heap} {a : Addr} {o : HO}
theorem ObjOk.there (x : ObjOk P w H h a o) : ∃ ob, h.get? a = some ob := by
 induction o with
 | lst xs => obtain ⟨_, _, _, _, e⟩ := x; exact ⟨_, e⟩
 | tup xs => obtain ⟨_, _, _, o, e, _⟩ := x; exact ⟨_, e⟩
 | dK kvs => obtain ⟨_, _, _, _, o, _, _, e, _⟩ := x; exact ⟨_, e⟩
 | dT kvs => obtain ⟨_, _, _, _, o, _, _, e, _⟩ := x; exact ⟨_, e⟩
 | set S n => obtain ⟨o, _, _, _, e, _⟩ := x; exact ⟨_, e⟩
 | ins C dx fs => obtain ⟨_, _, _, e, _⟩ := x; exact ⟨_, e⟩
 | own y => exact x
 | xd fs => obtain ⟨_, ⟨o, _, _, e, _⟩, _⟩ := x; exact ⟨_, e⟩
 | met f y => exact ⟨_, x⟩
 | rng lo hi => obtain ⟨_, _, _, e⟩ := x; exact ⟨_, e⟩
 | frz o u ih => exact ⟨_, x.1⟩
 | tbl ps => exact ⟨_, x⟩
 | ext φ => exact x.2.1
end
section
variable {X : Cx} {pins : List (Addr × Obj)} {σ : List (Option V)} {H : Hp} {s : Shared} {h' : Heap}
theorem Inv.loose {b : Addr} (I : Inv X pins σ H s) (e : s.heap.get? b = none) : Loose X pins H b := by
 have no : ∀ {c : Addr} {o : Obj}, s.heap.get? c = some o → c ≠ b := fun q z => by rw [z, e] at q; cases q
 refine ⟨?_, ?_, ?_, fun x c hc => ?_, fun p hp => no (I.pin p hp).1⟩
 ·cases q : H b with
  | none => rfl
  | some o =>
   obtain ⟨ob, z⟩ := ObjOk.there (I.hok b o q)
   exact absurd rfl (no z)
 ·by_cases hx : b ∈ X.ex
  ·exact .inl hx
  ·refine .inr ?_
   cases q : X.s₀.heap.get? b with
   | none => rfl
   | some o =>
    obtain ⟨o', z⟩ := I.base.there b o q hx
    exact absurd rfl (no z)
 ·obtain ⟨m, ⟨o, _, _, ho, _⟩, _⟩ := I.loc
  exact (no ho).symm
 ·obtain ⟨v, o, ho, _⟩ := I.cell x c hc
  exact no ho
theorem note_after {a : Addr} {cls a0 fl : Value} {S : List Addr} {h' : Heap} (I : Inv X [] σ H s) (hS : ∀ b ∈ S, Loose X [] H b) (ha : a ∈ S)
  (st : (PySem.W.hideAll s.heap (S ++ frs X.stack)).StaysIn h') (tr : h'.TracedAtW (PySem.W.hideAll s.heap (S ++ frs X.stack)) a cls a0 fl) (up : ∀ b o, s.heap.get? b = some o → (∀ vs, o.data ≠ .fields vs) → ∃ sl, h'.get? b = some { o with slots := sl }) : ∃ S', Inv X [] σ H { s with heap := h' } ∧ Exc h' a cls (some fl) S' ∧ ∀ b ∈ S', Loose X [] H b := by
 have sl : ∀ b o, s.heap.get? b = some o → b ∈ frs X.stack → ∃ w, h'.get? b = some { o with slots := w } := fun b o e hb => by
  obtain ⟨_, o', e', nf⟩ := I.stack.mem hb
  rw [e] at e'; cases e'
  exact up b o e nf
 have kp : ∀ b o, s.heap.get? b = some o → b ∉ S → b ∉ frs X.stack → h'.get? b = some o := fun b o e n1 n2 => st b o (PySem.W.hideAll_get _ e fun z => (List.mem_append.mp z).elim n1 n2)
 have I' : Inv X [] σ H { s with heap := h' } := I.fly (t' := s.toks) hS kp sl
 obtain ⟨oe, vs, T, oT, ts, he, ⟨hc, h0⟩, hd, h1, hnT, hTe, hT, hdT, h3⟩ := tr
 refine ⟨[a, T], I', .ent he hc hd h0 h1 hTe hT hdT h3, fun b hb => ?_⟩
 rcases List.mem_cons.mp hb with rfl | hb
 ·exact hS _ ha
 ·rw [List.mem_singleton.mp hb]
  by_cases h1 : T ∈ S
  ·exact hS _ h1
  ·cases q : s.heap.get? T with
   | none => exact I.loose q
   | some o =>
    by_cases h2 : T ∈ frs X.stack
    ·obtain ⟨_, o', e', nf⟩ := I.stack.mem h2
     rw [q] at e'; cases e'
     obtain ⟨w, z⟩ := sl T o q h2
     rw [hT] at z; cases z
     exact absurd hdT (nf ts)
    ·rw [PySem.W.hideAll_get _ q fun z => (List.mem_append.mp z).elim h1 h2] at hnT; cases hnT
theorem XE.note {E : XK} {e : Value} {EE : Value → Shared → Prop} (h : XE X E e s) : wpAny (model X.prog X.w) X.A (noteFrame e X.env) (fun _ s' => XHeld X E e s') EE s := by
 obtain ⟨a, L, cls, σ, H, fl, S, env0, rest, rfl, hs, hf0, hf, I, ex, hp, hS, hE⟩ := h
 rw [noteFrame_congr (hf.trans hf0.symm)]
 have hfr : X.A.frames = some (env0 :: rest) := by rw [I.ok.frames, hs]
 have hin : ∀ env ∈ X.stack, ∀ b, env.frame = some b → b ∈ S ++ frs X.stack := fun env he b hb => List.mem_append_right _ (List.mem_filterMap.mpr ⟨env, he, hb⟩)
 have hl : s.heap.FunFrames (PySem.W.hideAll s.heap (S ++ frs X.stack)) (env0 :: rest) := by rw [← hs]; exact PySem.W.funFrames_hide I.stack hin
 have hkb : (PySem.W.hideAll s.heap (S ++ frs X.stack)).StaysIn s.heap := fun b o q => PySem.W.of_hideAll _ q
 have fin : ∀ {h' : Heap} {a0 : Value}, a ∈ S → Heap.NotedW (PySem.W.hideAll s.heap (S ++ frs X.stack)) (env0 :: rest) a cls a0 (rawInt L) s.heap h' → XHeld X E (.ref a) { s with heap := h' } := fun {h' a0} ha hN => by
  obtain ⟨st, _, tr, up⟩ := hN
  obtain ⟨S', I', ex', hS'⟩ := note_after I hS ha st tr up
  exact ⟨a, L, cls, σ, H, _, S', env0, rest, rfl, hs, hf0, hf, I', ex', rfl, hS', hE⟩
 cases ex with
 | made he hc hd h0 h1 =>
  subst hc
  unfold noteFrame
  simp only [hf0]
  refine wpAny_bind (wpAny_field he hd h1 ?_)
  rw [if_neg (by decide)]
  refine wpAny_entryW hfr hl hf0 he hkb (PySem.W.hideAll_none _ (by simp)) hd (Array.getElem?_eq_some_iff.mp h1).1 h0 fun h' hN => fin (by simp) hN
 | @ent oe oT vs ts a0 fl T he hc hd h0 h1 hTa hT hdT h3 =>
  by_cases hb : (fl == rawInt L) = true
  ·obtain rfl := eq_of_beq hb
   exact wpAny_noteFrame_againW (base := PySem.W.hideAll s.heap [T]) hf0 ⟨oe, vs, T, oT, ts, he, ⟨hc, h0⟩, hd, h1, PySem.W.hideAll_none _ (by simp), hTa, hT, hdT, h3⟩ ⟨a, L, cls, σ, H, _, _, env0, rest, rfl, hs, hf0, hf, I, .ent he hc hd h0 h1 hTa hT hdT h3, rfl, hS, hE⟩
  ·have h3s : 3 < ts.size := (Array.getElem?_eq_some_iff.mp h3).1
   unfold noteFrame
   simp only [hf0]
   refine wpAny_bind (wpAny_field he hd h1 ?_)
   rw [if_pos (show (Value.ref T != Value.none) = true from by simp)]
   refine wpAny_bind (wpAny_field hT hdT h3 ?_)
   rw [if_neg hb]
   refine wpAny_bind (wpAny_setField hT hdT h3s ?_)
   have other : ∀ b, b ≠ T → (s.heap.update T (Obj.mapFields (·.setIfInBounds 3 Value.none))).get? b = s.heap.get? b := fun b n => Heap.get?_update_other _ _ (Ne.symm n)
   have nT : ∀ b ∈ frs X.stack, b ≠ T := fun b hb z => by
    obtain ⟨_, o', e', nf⟩ := I.stack.mem hb
    rw [z, hT] at e'; cases e'
    exact nf ts hdT
   have I1 := I.fly (t' := s.toks) (h' := s.heap.update T (Obj.mapFields (·.setIfInBounds 3 Value.none))) hS (fun b o q n _ => by rw [other b (fun z => n (by simp [z]))]; exact q) fun b o q hb => ⟨o.slots, by rw [other b (nT b hb)]; exact q⟩
   generalize hh1 : s.heap.update T (Obj.mapFields (·.setIfInBounds 3 Value.none)) = h1' at other I1 ⊢
   have he1 : h1'.get? a = some oe := (other a (Ne.symm hTa)).trans he
   have hin' : ∀ env ∈ X.stack, ∀ b, env.frame = some b → b ∈ [a, T] ++ frs X.stack := fun env he b hb => List.mem_append_right _ (List.mem_filterMap.mpr ⟨env, he, hb⟩)
   have hl1 : h1'.FunFrames (PySem.W.hideAll h1' ([a, T] ++ frs X.stack)) (env0 :: rest) := by rw [← hs]; exact PySem.W.funFrames_hide I1.stack hin'
   subst hc
   refine wpAny_entryW (s := { s with heap := h1' }) hfr hl1 hf0 he1 (fun b o q => PySem.W.of_hideAll _ q) (PySem.W.hideAll_none _ (by simp)) hd (Array.getElem?_eq_some_iff.mp h1).1 h0 fun h' hN => ?_
   obtain ⟨st, _, tr, up⟩ := hN
   obtain ⟨S', I', ex', hS'⟩ := note_after I1 hS (by simp) st tr up
   exact ⟨a, L, oe.cls, σ, H, _, S', env0, rest, rfl, hs, hf0, hf, I', ex', rfl, hS', hE⟩
end
end L2
namespace L2
open PySem PySem.Spec PyProof.Rows
section
variable {X : Cx} {E : XK} {e : Value} {s : Shared} {EE : Value → Shared → Prop} {M : Model}
theorem XEk.setFl {p : Option Value → Addr → Prop} {A : Around} {f : Option Addr} (h : XEk p X E e s) (hp : ∀ fl L, p fl L → fl ≠ none) :
  wpAny M A (setFlight e f) (fun _ s' => XEk (fun fl _ => fl = some (f.elim Value.none fun f => rawInt f)) X E e s') EE s := by
 obtain ⟨a, L, cls, σ, H, fl, S, env0, rest, rfl, hs, hf0, hf, I, ex, hp', hS, hE⟩ := h
 cases ex with
 | made => exact absurd rfl (hp _ _ hp')
 | @ent oe oT vs ts a0 fl T he hc hd h0 h1 hTa hT hdT h3 =>
  have h3s : 3 < ts.size := (Array.getElem?_eq_some_iff.mp h3).1
  unfold setFlight
  refine wpAny_bind (wpAny_field he hd h1 ?_)
  rw [if_pos (show (Value.ref T != Value.none) = true from by simp)]
  refine wpAny_setField hT hdT h3s ?_
  have other : ∀ b, b ≠ T → (s.heap.update T (Obj.mapFields (·.setIfInBounds 3 (f.elim Value.none fun f => rawInt f)))).get? b = s.heap.get? b := fun b n => Heap.get?_update_other _ _ (Ne.symm n)
  have self := Heap.get?_update_self (Obj.mapFields (·.setIfInBounds 3 (f.elim Value.none fun f => rawInt f))) hT (Obj.isFreed_of_fields (Obj.data_mapFields hdT _))
  have I' := I.fly (t' := s.toks) (h' := s.heap.update T (Obj.mapFields (·.setIfInBounds 3 (f.elim Value.none fun f => rawInt f)))) hS (fun b o q n _ => by rw [other b (fun z => n (by simp [z]))]; exact q) fun b o q hb => by
   have n : b ≠ T := fun z => by
    obtain ⟨_, o', e', nf⟩ := I.stack.mem hb
    rw [z, hT] at e'; cases e'
    exact nf ts hdT
   exact ⟨o.slots, by rw [other b n]; exact q⟩
  exact ⟨a, L, cls, σ, H, _, _, env0, rest, rfl, hs, hf0, hf, I', .ent ((other a (Ne.symm hTa)).trans he) hc hd h0 h1 hTa self (Obj.data_mapFields hdT _) (by simp [h3s]), rfl, hS, hE⟩
theorem XHeld.land {A : Around} (h : XHeld X E e s) : wpAny M A (setFlight e none) (fun _ s' => XFly X E e s') EE s :=
 wpAny_mono (XEk.setFl (f := none) h fun fl L z => by rw [z]; simp) (fun _ _ z => z) fun _ _ z => z
theorem XFly.land {A : Around} (h : XFly X E e s) : wpAny M A (setFlight e none) (fun _ s' => XFly X E e s') EE s :=
 wpAny_mono (XEk.setFl (f := none) h fun fl L z => by rw [z]; simp) (fun _ _ z => z) fun _ _ z => z
theorem XHeld.hold {A : Around} {env : Env} (hfr : env.frame = X.env.frame) (h : XHeld X E e s) : wpAny M A (setFlight e env.frame) (fun _ s' => XHeld X E e s') EE s := by
 obtain ⟨a, L, _, _, _, _, _, _, _, _, _, _, hf, _⟩ := id h
 rw [hfr, hf]
 refine wpAny_mono (XEk.setFl (f := some L) h fun fl L z => by rw [z]; simp) (fun _ s' z => ?_) fun _ _ z => z
 obtain ⟨a', L', cls, σ, H, fl, S, env0, rest, h1, h2, h3, h4, h5, h6, h7, h8⟩ := z
 obtain rfl : L = L' := Option.some.inj (hf.symm.trans h4)
 exact ⟨a', L, cls, σ, H, fl, S, env0, rest, h1, h2, h3, h4, h5, h6, h7, h8⟩
theorem XHeld.hasTb {Q : Value → Shared → Prop} {A : Around} (h : XHeld X E e s) (q : ∀ v, (v == Value.none) = false → Q v s) : wpAny M A (field e 1) Q EE s := by
 obtain ⟨a, L, cls, σ, H, fl, S, env0, rest, rfl, hs, hf0, hf, I, ex, hp', hS, hE⟩ := h
 cases ex with
 | made => cases hp'
 | ent he hc hd h0 h1 => exact wpAny_field he hd h1 (q _ (by simp))
theorem XHeld.back {A : Around} {env : Env} (hfr : env.frame = X.env.frame) (h : XHeld X E e s) : cameBackBy M A env (XE X E) e s := by
 unfold cameBackBy
 refine wpAny_bind (h.hasTb fun v hv => ?_)
 rw [hv]
 simp only [Bool.false_eq_true, if_false]
 exact wpAny_mono (h.hold hfr) (fun _ _ z => z.xe) fun _ _ z => z
theorem XHeld.passAny {α : Type} {A : Around} {env : Env} {what : String} {Q : α → Shared → Prop} (h : XHeld X E e s) (k : ∀ s', XE X E e s' → EE e s') : wpAny M A (PySem.passOn what e env : Sem α) Q EE s := by
 unfold PySem.passOn
 refine wpAny_bind (h.hasTb fun v hv => ?_)
 rw [hv]
 simp only [Bool.false_eq_true, if_false]
 exact wpAny_bind (wpAny_mono (XEk.setFl (f := env.frame) h fun fl L z => by rw [z]; simp) (fun _ s' z => wpAny_throw (k s' (XEk.imp z fun _ _ _ => trivial))) fun _ _ z => z)
theorem passes_xe : PassesOwn (model X.prog X.w) X.A X.env (XE X E) := fun e s h => by
 unfold notedBy
 exact wpAny_mono h.note (fun _ s' z => z.back rfl) fun _ _ z => z
theorem XE.leave (h : XE X E e s) : wpAny (model X.prog X.w) X.A (leaving X.env e) (fun _ s' => XFly X E e s') EE s := by
 unfold leaving
 exact wpAny_bind (wpAny_mono h.note (fun _ s' z => z.land) fun _ _ z => z)
end
def CX1 (P : Program) (w : World) : CXT := fun outer H s E e s' => ∃ (a : Addr) (cls : Value) (H' : Hp) (S : List Addr), e = .ref a ∧ s'.os = s.os ∧ AllBare s'.gens ∧ Un (frs outer) [] H H' s.heap s'.heap ∧ HOk P w H' s'.heap ∧ Exc s'.heap a cls (some .none) S ∧ (∀ b ∈ S, H' b = none ∧ s.heap.get? b = none) ∧ E cls none H'
def Framed (X : Cx) : Prop := ∃ (L : Addr) (env0 : Env) (rest : List Env), X.stack = env0 :: rest ∧ env0.frame = some L ∧ X.env.frame = some L
abbrev Cx.exc (X : Cx) (E : XK) : Cx := X.wish (XE X E)
theorem passes1 {X : Cx} {E : XK} (fr : Framed X) : Passes (CX1 X.prog X.w) (X.exc E) E := by
 intro pins σ H s e s' I h
 obtain ⟨a, cls, H', S, rfl, ho, hb, un, hok, ex, hS, hE⟩ := h
 obtain ⟨L, env0, rest, h1, h2, h3⟩ := fr
 have I0 : Inv X pins σ H s := I.unwish
 have I1 : Inv X [] σ H s := I0.pins_of fun p hp => by simp at hp
 have I2 : Inv X [] σ H' s' := I1.call' (ch := []) ho un hok hb fun b z => by simp at z
 refine ⟨a, L, cls, σ, H', _, S, env0, rest, rfl, h1, h2, h3, I2, ex, trivial, fun b z => ?_, hE⟩
 obtain ⟨u, n⟩ := hS b z
 obtain ⟨_, l2, l3, l4, l5⟩ := I1.loose n
 exact ⟨u, l2, l3, l4, l5⟩
theorem framed_of {CX : CXT} {P : Program} {w : World} {K : PySem.W.Frag} {mg : Str → Option Value} {base : Heap} {N : List Str} {qual : Str} {scope : Scope} {f : Addr} {cd : Value} {A : Around} {outer : List Env} {s : Shared} {H : Hp} {E : XK} : Framed (cxOf CX P w K mg base N qual scope f cd A outer s H E) := ⟨_, _, _, rfl, rfl, rfl⟩
theorem Fun.okE {P : Program} {w : World} {K : PySem.W.Frag} {mg : Str → Option Value} {base : Heap} {x qual : Str} {st : Stmt} {f : Addr} {fd : FuncData} {N ps : List Str} {k : Nat} {sp : Sp} (F : Fun K x qual st f fd) (S : FnScope N ps (defScope st)) (len : ∀ vs H Q E, sp vs H Q E → vs.length = ps.length)
  (hbody : ∀ (cdv : Value) (A : Around) (outer : List Env) (s : Shared) (H : Hp) (vs : List V) (Q : VK) (E : XK), Room k (A.deeper (envOfC qual (defScope st) s.heap.objs.size f cdv)) → sp vs H Q E →
   ∃ t, PSs ((cxOf (CX1 P w) P w K mg base N qual (defScope st) f cdv A outer s H E).exc E) (defBody st) t ∧ t { nx := fun _ H' => Q .non H', rt := Q } (start N vs) H) : FnOk P w K mg base (CX1 P w) (k + 1) f fd ps sp := by
 obtain ⟨oc, od, kV, doc, pm, an, cdv, ct, osl, rfl, lk, hcd⟩ := F.ex
 refine fn_of lk hcd S len fun A outer s H vs Q E hr hsp => ?_
 obtain ⟨t, h, q⟩ := hbody cdv A outer s H vs Q E hr hsp
 refine ⟨t, fun pins s1 σ H1 D I hw => ?_, q⟩
 refine wpAny_mono (h pins s1 σ H1 D (I.wish _) hw) (fun fl s2 z => z.unwish) fun e s2 z => ?_
 refine wpAny_mono z.leave (fun _ s3 z3 => ?_) fun _ _ z => z
 obtain ⟨a, L, cls, σ', H', fl, S', env0, rest, rfl, hs, hf0, hf, I', ex, hp', hS, hE⟩ := z3
 obtain rfl : fl = some .none := hp'
 refine ⟨a, cls, H', S', rfl, I'.os, I'.bare, I'.base, I'.hok, ex, fun b hb => ⟨(hS b hb).un, ?_⟩, hE⟩
 rcases (hS b hb).new with z | z
 ·exact absurd (show b ∈ ([] : List Addr) from z) (by simp)
 ·exact z
end L2
namespace L2
open PySem PySem.Spec PyProof.Rows
abbrev mroVE : List Value := [.type "ValueError", .type "Exception", .type "BaseException", .type "object"]
def ExcCls (K : PySem.W.Frag) (mg : Str → Option Value) (x : Str) (C : Addr) : Prop := ∀ h : Heap, K.In h → OwnCls x C mroVE "ValueError.__new__" mg h
def tRaise (C : Addr) (E : XK) (t : TA) : TS := fun _ σ H => t σ H fun vs H1 => vs.length ≤ sizeLine ∧ E (.ref C) none H1
theorem ps_raise {X : Cx} {E : XK} {x : Str} {C : Addr} {np cpos pos : Pos} {e : Expr} {es : List Expr} {t : TA} (fr : Framed X) (hc : X.calm = true) (O : ExcCls X.K X.mg x C) (hg : Gl X x) (ha : PA (X.exc E) (e :: es) t)
  (hdb : (x == ("__debug__" : Str)) = false := by decide) (he : starEach (e :: es) X.env = (false, eval e X.env) :: starEach es X.env := by rfl) (hpl : (backTo cpos (starEach es X.env)).any (·.1) = false := by rfl) :
  PS (X.exc E) (.Raise (some (.Call (.Name x np) (e :: es) [] cpos)) none pos) (tRaise C E t) := by
 intro pins s σ H D I h
 have O0 := O X.base I.ok.mod.kin
 obtain ⟨bm, N, nm, q, bs, hdct, sn, sub, ab, col, dd, k0, k1, k2, k3, k5, mN, hC, hN, hni, T⟩ := O0.obj
 refine wpAny_Raise_call_subU (C := C) (bm := bm) (nm := nm) (q := q) (N := N) (bs := bs) (hdct := hdct) (sn := sn) (sub := sub) (ab := ab) (col := col) (dd := dd) (k0 := k0) (k1 := k1) (k2 := k2) (k3 := k3) (k5 := k5) (mN := mN)
  PySem.F.excBase_ValueError (by decide +kernel) PySem.F.excBase_ValueError (T.hasType (by decide +kernel)) (I.ok.hd hc) (by rw [show (X.exc E).env = X.env from rfl, he]; show (false || (backTo cpos (starEach es X.env)).any (·.1)) = false; rw [hpl]; rfl) hni (ld_glob I hg O0.bound ⟨rfl, ?_⟩ hdb)
 have h1 := ha cpos pins s σ H _ I h
 rw [show (X.exc E).env = X.env from rfl, he] at h1 ⊢
 refine Calls.evalArgs_plain (wpAny_mono h1 (fun vs s2 z => ?_) fun _ _ z => z)
 obtain ⟨ws, H2, I2, rv, hl, hE⟩ := z
 have hk : ∀ b o, X.base.get? b = some o → s2.heap.get? b = some o := I2.bk
 refine ⟨rfl, by rw [← rv.length]; exact hl, ?_, ?_, ?_, fun h' a M => ?_⟩
 ·exact hk _ _ hC
 ·exact hN.keeps hk
 ·exact T.keeps hk
 ·obtain ⟨tt, g1, g2, g3⟩ := M.there
  obtain ⟨L, env0, rest, e1, e2, e3⟩ := fr
  have I3 : Inv X [] σ H2 s2 := I2.unwish.pins_of fun p hp => by simp at hp
  exact ⟨a, L, .ref C, σ, H2, none, [a], env0, rest, rfl, e1, e2, e3, I3.kept (t' := s2.toks) M.keeps, .made g1 rfl rfl rfl rfl, trivial, fun b hb => by rw [List.mem_singleton.mp hb]; exact I3.loose M.new, hE⟩
end L2

set_option Elab.async false
set_option linter.all false
set_option maxRecDepth 100000
set_option maxHeartbeats 4000000
namespace L2
open PySem PySem.Spec PyProof.Rows
section
variable {X : Cx} {n : Nat} {N' : List Str} {scope : Scope} {elt tg iter : Expr} {pos : Pos} {pins : List (Addr × Obj)} {σ : St} {H2 : Hp} {s2 : Shared} {cl : List (Str × Addr)}
theorem comp_fails {E0 : XK} {C : Addr} {fp : List Addr} {x : Value} {s' : Shared} (I2 : Inv X pins σ H2 s2) (f2 : ∀ b ∈ fp, FpOk X pins H2 b) (fr : Framed X) (h : XHeld (cxComp X N' scope cl C fp s2 H2) E0 x s') :
  ∃ m, s'.heap.Ns C m ∧ ∀ h', Heap.SameBut C s'.heap h' → ∀ cenv : Env, cenv.locals = C → wpAny (model X.prog X.w) X.A (PySem.passOn "comprehension.variables-let-go" x cenv : Sem Value) (fun _ _ => False) (XE X E0) { s' with heap := h' } := by
 obtain ⟨a, L, cls, σ', H', fl, S, env0, rest, rfl, hs, hf0, hf, I', ex, hp, hS, hE⟩ := h
 obtain ⟨m, hn, _⟩ := I'.loc
 refine ⟨m, hn, fun h' sb cenv hc => ?_⟩
 have I0 : Inv X [] σ H2 s2 := I2.pins_of fun p hp => by simp at hp
 have un : Un (frs X.stack) fp H2 H' s2.heap s'.heap := I'.base
 have IX : Inv X [] σ H' s' := I0.call' (ch := fp) I'.os un I'.hok I'.bare fun b hb => by
  obtain ⟨f0, f1, ff, f3, f4, f5⟩ := f2 b hb
  exact ⟨f3, f1, f4, fun p hp => f5 p (List.mem_append_left _ (by simpa using hp))⟩
 have lo : ∀ b ∈ S, Loose X [] H' b := fun b hb => by
  obtain ⟨u, nw, _, _, _⟩ := hS b hb
  rcases nw with z | z
  ·obtain ⟨f0, f1, ff, f3, f4, f5⟩ := f2 b z
   exact ⟨u, f3.imp id Heap.get?_none_of_le, Ne.symm (Ne.symm f1), f4, fun p hp => f5 p (List.mem_append_left _ (by simpa using hp))⟩
  ·obtain ⟨_, l2, l3, l4, l5⟩ := I0.loose z
   exact ⟨u, l2, l3, l4, l5⟩
 have nC : ∀ b ∈ S, b ≠ C := fun b hb => (hS b hb).loc
 have lC : s2.heap.objs.size ≤ C := I'.ok.above
 have cL : Loose X [] H' C := by
  obtain ⟨_, l2, l3, l4, l5⟩ := I0.loose (Heap.get?_none_of_le lC)
  exact ⟨I'.free, l2, l3, l4, l5⟩
 have nF : C ∉ frs X.stack := fun z => by
  obtain ⟨_, o, e, _⟩ := I2.stack.mem z
  exact absurd (Heap.lt_size e) (Nat.not_lt.mpr lC)
 have IY : Inv X [] σ H' { s' with heap := h' } := IX.fly (t' := s'.toks) (S := [C]) (fun b hb => by rw [List.mem_singleton.mp hb]; exact cL) (fun b o q n1 _ => (sb.2 b (fun z => n1 (by simp [z]))).trans q) fun b o q hb => ⟨o.slots, (sb.2 b (fun z => nF (by rw [← z]; exact hb))).trans q⟩
 have exY : Exc h' a cls fl S := by
  cases ex with
  | made he hc hd h0 h1 => exact .made ((sb.2 a (nC a (by simp))).trans he) hc hd h0 h1
  | @ent oe oT vs ts a0 fl T he hc hd h0 h1 hTa hT hdT h3 => exact .ent ((sb.2 a (nC a (by simp))).trans he) hc hd h0 h1 hTa ((sb.2 T (nC T (by simp))).trans hT) hdT h3
 have hX : XHeld X E0 (.ref a) { s' with heap := h' } := ⟨a, L, cls, σ, H', fl, S, env0, rest, rfl, hs, hf0, hf, IY, exY, hp, lo, hE⟩
 exact hX.passAny fun s'' z => z
theorem comp_blockE {E0 : XK} {it : Addr} {fp : List Addr} {tn : Nat → Heap → Prop} {J : It} {g : InBlock TG} {te : InBlock TE} {Q : VK} {E : Value → Shared → Prop}
  (hc : X.calm = true) (S : CompScope n N' X scope) (c1 : ∀ x c, cl.lookup x = some c → X.env.cells.lookup x = some c) (c2 : ∀ x ∈ scope.names, x.2 = .free → ∃ c, cl.lookup x.1 = some c)
  (I2 : Inv X pins σ H2 s2) (T : Turn X.prog X.w X.K tg J fp it tn) (st2 : tn 0 s2.heap) (f2 : ∀ b ∈ fp, FpOk X pins H2 b)
  (hg : ∀ cl C ex s H, PG ((cxComp X N' scope cl C ex s H).exc E0) tg (g cl C ex s H)) (he : ∀ cl C ex s H, PE ((cxComp X N' scope cl C ex s H).exc E0) elt (te cl C ex s H))
  (cok : ∀ cl C ex s Hc, CompOk n J (g cl C ex s Hc) (te cl C ex s Hc) σ H2 Q) :
  wpAny (model X.prog X.w) X.A (newList []) (fun acc s3 => wpAny (model X.prog X.w) X.A (newFunctionEnv scope X.env.globals cl [] X.env.qual none .none (some X.env)) (fun cenv s4 =>
   codeAny (model X.prog X.w) X.A (.compStart (.ListComp elt [⟨tg, iter, [], 0⟩] scope pos) 0 (.ref it) acc { cenv with scope := relabel scope X.env })
    (fun r s' => match r with | .ok _ => CompBack X pins σ Q acc cenv.locals s' | .error x => XHeld (cxComp X N' scope cl cenv.locals fp s2 H2) E0 x s') s4) E s3) E s2 := by
 have fl : ∀ b ∈ fp, @LT.lt Nat _ b s2.heap.objs.size := fun b hb => by
  obtain ⟨o, e, _⟩ := T.obj _ _ st2 b hb
  exact Heap.lt_size e
 have frl : ∀ b ∈ frs X.stack, @LT.lt Nat _ b s2.heap.objs.size := fun b hb => by
  obtain ⟨_, o, ho, _⟩ := I2.stack.mem hb
  exact Heap.lt_size ho
 have celll : ∀ x c, X.env.cells.lookup x = some c → @LT.lt Nat _ c s2.heap.objs.size := fun x c e => by
  obtain ⟨v, q⟩ := I2.cell x c e
  exact q.lt
 refine wpAny_newObj_type (wpAny_newFunctionEnv S.cell (by intro y hy; simp at hy) (fun h1 hns1 hsb1 => ?_) S.kind)
 dsimp only at hns1 hsb1 ⊢
 generalize hH2 : s2.heap.push { cls := .type "list", dict := none, data := .seq ([] : List Value).toArray } = G at hns1 hsb1 ⊢
 have hC : @Eq Nat G.objs.size (s2.heap.objs.size + 1) := by rw [← hH2, Heap.size_push]
 have hDC : s2.heap.objs.size ≠ G.objs.size := by show @Ne Nat _ _; omega
 have below : ∀ b, @LT.lt Nat _ b s2.heap.objs.size → b ≠ G.objs.size ∧ b ≠ s2.heap.objs.size := fun b hb => ⟨by show @Ne Nat _ _; omega, Nat.ne_of_lt hb⟩
 have old : ∀ b o, s2.heap.get? b = some o → h1.get? b = some o := fun b o e => hsb1.extBut b o (below b (Heap.lt_size e)).1 (Heap.get?_push_of_some _ (hH2 ▸ Heap.get?_push_of_some _ e))
 have hacc : h1.get? s2.heap.objs.size = some { cls := .type "list", data := .seq ([] : List Value).toArray 0 } := hsb1.extBut _ _ hDC (Heap.get?_push_of_some _ (hH2 ▸ Heap.get?_push_size _ rfl))
 have hst1 : tn 0 h1 := T.keep _ _ _ st2 fun b hb o e => old b o e
 let X' := cxComp X N' scope cl G.objs.size fp s2 H2
 obtain ⟨W, ⟨m0, w0⟩, turn⟩ := cok cl G.objs.size fp s2 H2
 have hXe : X'.xe = X.xe := rfl
 have stat : ∀ {H' : Hp} {ps : List (Addr × Obj)}, (∀ b ∈ fp, H' b = none) → (∀ p ∈ ps, p.1 = s2.heap.objs.size) → ∀ b ∈ fp, FpOk X' ps H' b := fun {H' ps} hn hp b hb => by
  obtain ⟨f0, f1, ff, f3, f4, f5⟩ := f2 b hb
  refine ⟨hn b hb, (below b (fl b hb)).1, fun z => ?_, .inl hb, fun x c e z => ?_, fun p hp' z => ?_⟩
  ·exact (List.mem_cons.mp (I2.stkSub b z)).elim f1 ff
  ·exact f4 x c (c1 x c e) z
  ·have e : p.1 = s2.heap.objs.size := hp p (by simpa [X', cxComp] using hp')
   exact (below b (fl b hb)).2 (z.symm.trans e)
 have loop : ∀ s3 : Shared, s3 = { s2 with heap := h1, toks := s2.toks + ([] : List (Str × Value)).length } →
   codeAny (model X.prog X.w) X.A (.compLoop (.ListComp elt [⟨tg, iter, [], 0⟩] scope pos) 0 (.ref it) (.ref s2.heap.objs.size) (compEnvC scope cl G.objs.size X.env))
    (fun r s' => match r with | .ok _ => CompBack X pins σ Q (.ref s2.heap.objs.size) G.objs.size s' | .error x => XHeld (cxComp X N' scope cl G.objs.size fp s2 H2) E0 x s') s3 := by
  rintro s3 rfl
  have I3 := comp_inv (us := []) (k := 0) (s' := { s2 with heap := h1, toks := s2.toks + ([] : List (Str × Value)).length }) S c1 c2 I2 f2 fl rfl hC rfl rfl old ⟨_, hns1⟩ hacc
  refine codeAny_compLoop_any (fun m s' => ∃ i ys us k σ' H', Inv X' [(s2.heap.objs.size, { cls := .type "list", data := .seq (us : List Value).toArray k })] σ' H' s' ∧ Vals ys us ∧ tn i s'.heap ∧ (∀ b ∈ fp, H' b = none) ∧ ys.length ≤ sizeLine ∧ W i m ys σ' H') ?_ m0
   ⟨0, [], [], 0, _, H2, I3, .nil, hst1, fun b hb => (f2 b hb).1, Nat.zero_le _, w0⟩
  rintro m s' ⟨i, ys, us, k, σ', H', I', rv, st', fr', hlen, w'⟩
  rcases turn i m ys σ' H' w' with ⟨stop, q⟩ | ⟨go, hlt, step⟩
  ·refine thn (T.done X' rfl rfl rfl hc i _ s' σ' H' _ I' (stat fr' (by simp)) st' stop) fun r s4 ⟨hr, I4⟩ => ?_
   subst hr
   show CompBack X pins σ Q (.ref s2.heap.objs.size) G.objs.size s4
   obtain ⟨m1, hn1, _⟩ := I4.loc
   obtain ⟨pD, nD, _, _, _⟩ := I4.pin (s2.heap.objs.size, { cls := .type "list", data := .seq us.toArray k }) (List.mem_append_right _ (by simp))
   have nD : H' s2.heap.objs.size = none := nD
   have pD : s4.heap.get? s2.heap.objs.size = some { cls := .type "list", data := .seq us.toArray k } := pD
   have hok : HOk X.prog X.w (upd H' s2.heap.objs.size (.lst ys)) s4.heap := fun b u e => by
    by_cases hb : b = s2.heap.objs.size
    ·subst hb
     rw [upd_same] at e; cases e
     exact ⟨hlen, us, k, rv, pD⟩
    ·rw [upd_ne hb] at e
     exact (I4.hok b u e).stay (fun _ _ _ q => q) (fun c q => by rw [upd_ne (ne_of_none q nD)]; exact q) fun c xs q => by rw [upd_ne (ne_of_none q nD)]; exact q
   have un : Un (frs X.stack) fp H2 (upd H' s2.heap.objs.size (.lst ys)) s2.heap s4.heap := by
    have u0 := I4.base
    refine ⟨u0.keep, u0.slot, fun b o e n hx => ?_, u0.there, fun b xs e => ?_, fun b o xs e => ?_, fun b ps e => ?_⟩
    ·rw [upd_ne (below b (Heap.lt_size e)).2]; exact u0.free b o e n hx
    ·have q := u0.tups b xs e
     rw [upd_ne (ne_of_none q nD)]; exact q
    ·have q := u0.frzs b o xs e
     rw [upd_ne (ne_of_none q nD)]; exact q
    ·obtain ⟨more, q⟩ := u0.tbls b ps e
     exact ⟨more, by rw [upd_ne (ne_of_none q nD)]; exact q⟩
   have IX : Inv X pins σ (upd H' s2.heap.objs.size (.lst ys)) s4 := I2.call' (ch := fp) I4.os un hok I4.bare fun b hb => by
    obtain ⟨f0, f1, ff, f3, f4, f5⟩ := f2 b hb
    exact ⟨f3, f1, f4, f5⟩
   have hG0 : H' G.objs.size = none := I4.free
   refine ⟨s2.heap.objs.size, _, m1, rfl, IX, hn1, ⟨by rw [upd_ne (Ne.symm hDC)]; exact hG0, fun z => ?_, fun z => ?_, .inr ?_, fun x c e z => ?_, fun p hp z => ?_⟩, q _ nD⟩
   ·have q1 : @LT.lt Nat _ X.env.locals s2.heap.objs.size := I2.lt
    have q2 : @Eq Nat G.objs.size X.env.locals := z
    omega
   ·have z' : G.objs.size ∈ frs X.outer := z
    obtain ⟨_, o, ho, _⟩ := I2.funs.mem z'
    have q1 : @LT.lt Nat _ G.objs.size s2.heap.objs.size := Heap.lt_size ho
    omega
   ·have q1 := I2.sz
    show @LE.le Nat _ X.s₀.heap.objs.size G.objs.size
    omega
   ·have q1 := celll x c e
    have q2 : @Eq Nat c G.objs.size := z
    omega
   ·have q1 : @LT.lt Nat _ p.1 s2.heap.objs.size := Heap.lt_size (I2.pin p hp).1
    have q2 : @Eq Nat p.1 G.objs.size := z
    omega
  ·refine thn (T.item X' rfl rfl rfl hc i _ s' σ' H' _ I' (stat fr' (by simp)) st' go) fun r s4 ⟨u, hr, h4⟩ => ?_
   subst hr
   show wpAny _ _ (letOwnedTupleGo tg (.ref it) u) _ _ s4
   refine thn h4 fun _ s5 ⟨x, H5, I5, r5, y5, st5, fr5⟩ => ?_
   have I5' := I5.pinned (stat fr5 (by simp)) (T.obj _ _ st5)
   have w1 := hg cl G.objs.size fp s2 H2 _ s5 σ' H5 x u _ (I5'.wish _) r5 (step x H5 y5)
   refine wpAny_mono w1 (fun _ s6 ⟨σ6, H6, I6, q6⟩ => ?_) fun v s hv => wpAny_mono (XE.note (X := cxComp X N' scope cl G.objs.size fp s2 H2) (E := E0) hv) (fun _ _ z => z) fun _ _ z => z
   obtain ⟨NN, q6, hNN⟩ := q6
   have w2 := he cl G.objs.size fp s2 H2 _ s6 σ6 H6 _ I6 q6
   refine wpAny_mono w2 (fun y s7 ⟨v, H7, I7w, r7, q7⟩ => ?_) fun v s hv => wpAny_mono (XE.note (X := cxComp X N' scope cl G.objs.size fp s2 H2) (E := E0) hv) (fun _ _ z => z) fun _ _ z => z
   have I7 := I7w.unwish
   obtain ⟨m', hm', w7⟩ := hNN v H7 q7
   have pinD := I7.pin (s2.heap.objs.size, { cls := .type "list", data := .seq us.toArray k }) (List.mem_append_right _ (List.mem_append_left _ (by simp)))
   obtain ⟨pD, nD, lD, fD, _⟩ := pinD
   refine append_at (hsz := by rw [List.size_toArray, ← rv.length]; exact hlen) pD fun h8 hs8 hD8 => ?_
   have nD : H7 s2.heap.objs.size = none := nD
   have I8 : Inv X' (pinsAt fp s5.heap) σ6 H7 { s7 with heap := h8 } := by
    refine (I7.pins_of (pins' := pinsAt fp s5.heap) fun p hp => I7.pin p (List.mem_append_right _ (List.mem_append_right _ hp))).turned (t' := s7.toks) (it := s2.heap.objs.size) (fun b o hb e => (hs8.2 b hb).trans e) nD lD (.inr (Nat.le_refl _)) (fun x c e z => ?_) fun p hp z => ?_
    ·have q1 := celll x c (c1 x c e)
     have q2 : @Eq Nat c s2.heap.objs.size := z
     omega
    ·have hp' : p ∈ pinsAt fp s5.heap := by simpa [X', cxComp] using hp
     have q1 := fl p.1 (of_pinsAt hp').1
     have q2 : @Eq Nat p.1 s2.heap.objs.size := z
     omega
   have I9 : Inv X' [(s2.heap.objs.size, { cls := .type "list", data := .seq (us ++ [y]).toArray (k + 1) })] σ6 H7 { s7 with heap := h8 } := I8.pins_of fun p hp => by
    have e : p = (s2.heap.objs.size, { cls := .type "list", data := .seq (us ++ [y]).toArray (k + 1) }) := by simpa using hp
    subst e
    refine ⟨by rw [hD8, List.push_toArray], nD, lD, fD, fun v z => by cases z⟩
   refine ⟨m', hm', i + 1, ys ++ [v], us ++ [y], k + 1, σ6, H7, I9, rv.append (.cons r7 .nil), T.keep _ _ _ st5 fun b hb o e => ?_, fun b hb => ?_, by rw [List.length_append, List.length_singleton]; omega, w7⟩
   ·exact (I8.pin (b, o) (List.mem_append_right _ (mem_pinsAt hb e))).1
   ·obtain ⟨o, e, d⟩ := T.obj _ _ st5 b hb
    exact (I8.pin (b, o) (List.mem_append_right _ (mem_pinsAt hb e))).2.1
 exact codeAny_compStart_list (loop _ rfl) (T.self _ 0 _ _ _ hst1 (loop _ rfl))
theorem pe_compE {E0 : XK} {wi : TI} {g : InBlock TG} {te : InBlock TE} (fr : Framed X) (hc : X.calm = true) (S : CompScope n N' X scope) (hi : PI (X.exc E0) tg iter wi)
  (hg : ∀ cl C ex s H, PG ((cxComp X N' scope cl C ex s H).exc E0) tg (g cl C ex s H)) (he : ∀ cl C ex s H, PE ((cxComp X N' scope cl C ex s H).exc E0) elt (te cl C ex s H))
  (hs : ∀ x, foldedSetIterable iter X.env x = pure x := by intro _; rfl) : PE (X.exc E0) (.ListComp elt [⟨tg, iter, [], 0⟩] scope pos) (tComp n wi g te) := by
 intro pins s σ H Q I h
 rw [eval_ListComp]
 obtain ⟨cl, hcl, c1, c2⟩ := closure_ok (scope := scope) (env := X.env) fun x hx hf => I.ok.has x.1 (S.free x hx hf)
 refine wpAny_comprehension_free (use := none) rfl hs hcl S.kind S.names (thn (hi pins s σ H _ I h) fun v s1 h1 => thn h1 fun itv s2 h2 => ?_)
 obtain ⟨it, fp, tn, J, H2, e, I2w, T, st2, f2, cok⟩ := h2
 subst e
 have I2 := I2w.unwish
 refine wpAny_mono (comp_blockE (X := X) (E0 := E0) (pos := pos) (iter := iter) (Q := Q) (E := (X.exc E0).xe) hc S c1 c2 I2 T st2 f2 hg he cok) (fun acc s3 h3 => wpAny_mono h3 (fun cenv s4 h4 => codeAny_mono h4 fun r s' hr => ?_) fun _ _ z => z) fun _ _ z => z
 cases r with
 | error e => exact comp_fails I2 f2 fr hr
 | ok f =>
  obtain ⟨D, H', m, rfl, I', hn, ⟨f0, f1, ff, f3, f4, f5⟩, q⟩ := hr
  refine ⟨m, hn, fun h' hs' => ⟨.ref D, H', Inv.wish ?_ _, rfl, q⟩⟩
  exact I'.turned (t' := s'.toks) (fun b o hb e => (hs'.2 b hb).trans e) f0 f1 f3 f4 f5
end
end L2

set_option Elab.async false
set_option linter.all false
set_option maxRecDepth 100000
set_option maxHeartbeats 4000000
namespace L2
open PySem PySem.Spec PyProof.Rows
structure RoomU (k : Nat) (A : Around) : Prop where
 gd : A.guards = some []
 dp : A.depth + 3 * k + 5 < recursionLimit
 un : A.units + 16 * k + 200 < cLine
theorem Room.u {k : Nat} {A : Around} (r : Room k A) : RoomU k A := ⟨r.gd, r.dp, r.un⟩
theorem RoomU.mono {j k : Nat} {A : Around} (r : RoomU k A) (h : j ≤ k) : RoomU j A := ⟨r.gd, by have := r.dp; omega, by have := r.un; omega⟩
theorem RoomU.mark {k : Nat} {A : Around} (r : RoomU k A) (e : Option Value) : RoomU k (A.mark e) := ⟨r.gd, r.dp, r.un⟩
theorem RoomU.deeper {k : Nat} {A : Around} (r : RoomU (k + 1) A) (env : Env) : RoomU k (A.deeper env) := ⟨r.gd, (by have := r.dp; show A.depth + 1 + 3 * k + 5 < _; omega), (by have := r.un; show A.units + 3 + 16 * k + 200 < _; omega)⟩
theorem RoomU.depth {k : Nat} {A : Around} (r : RoomU k A) : A.depth < recursionLimit := by have := r.dp; omega
structure FnOkU (P : Program) (w : World) (K : PySem.W.Frag) (mg : Str → Option Value) (base : Heap) (CX : CXT) (k : Nat) (f : Addr) (fd : FuncData) (ps : List Str) (sp : Sp) : Prop where
 len : ∀ vs H Q E, sp vs H Q E → vs.length = ps.length
 run : ∀ (A : Around) (outer : List Env) (s : Shared) (H : Hp) (args : Args) (us : List Value) (vs : List V) (Q : VK) (E : XK), RoomU k A → Env0 P w K mg base A outer s H → BindsTo s fd args (ps.zip us) → Vals vs us → sp vs H Q E →
  codeAny (model P w) A (.call (.ref f) args) (CR CX outer P w H s Q E) s
def cxOfU (CX : CXT) (P : Program) (w : World) (K : PySem.W.Frag) (mg : Str → Option Value) (base : Heap) (N : List Str) (qual : Str) (scope : Scope) (f : Addr) (cd : Value) (A : Around) (outer : List Env) (s : Shared) (H : Hp) (E : XK) : Cx where
 prog := P
 w := w
 K := K
 mg := mg
 base := base
 A := A.deeper (envOfC qual scope s.heap.objs.size f cd)
 N := N
 s₀ := s
 H₀ := H
 env := envOfC qual scope s.heap.objs.size f cd
 outer := outer
 stack := envOfC qual scope s.heap.objs.size f cd :: outer
 ex := []
 calm := false
 fn := fun _ => true
 pn := []
 xe := fun e s' => wpAny (model P w) (A.deeper (envOfC qual scope s.heap.objs.size f cd)) (leaving (envOfC qual scope s.heap.objs.size f cd) e) (fun _ s'' => CX outer H s E e s'') (fun e' s'' => CX outer H s E e' s'') s'
theorem inv_startU {CX : CXT} {P : Program} {w : World} {K : PySem.W.Frag} {mg : Str → Option Value} {base : Heap} {N ps : List Str} {qual : Str} {scope : Scope} {f : Addr} {cd : Value} {A : Around} {outer : List Env} {s s1 : Shared} {H : Hp} {E : XK} {us : List Value} {vs : List V}
  (S : FnScope N ps scope) (e0 : Env0 P w K mg base A outer s H) (hl : vs.length = ps.length) (r : Vals vs us)
  (x : InCallC s s.heap.objs.size (bindL (envOfC qual scope s.heap.objs.size f cd).kindOf (ps.zip us) fun _ => none) (cellsFrom (s.heap.objs.size + 1) scope.names []) (bindC (envOfC qual scope s.heap.objs.size f cd).kindOf (ps.zip us) fun _ => none) s1) :
  Inv (cxOfU CX P w K mg base N qual scope f cd A outer s H E) [] (start N vs) H s1 := by
 have hpl : ps.length ≤ N.length := by have := congrArg List.length S.pre; rw [List.length_take] at this; omega
 obtain ⟨h1, tk, rfl, hk⟩ := x.done
 have noA : ∀ b : Addr, b ∉ (cxOfU CX P w K mg base N qual scope f cd A outer s H E).ex := fun b z => absurd (show b ∈ ([] : List Addr) from z) (by simp)
 refine ⟨⟨e0.mod, S.kind, rfl, rfl, Nat.le_refl _, fun y z c h1 h2 => ?_, fun y hy => ?_, fun y c _ h => ?_, (fun z => nomatch z), Around.frames_deeper e0.frames, .inr ⟨rfl, rfl⟩, fun b z => absurd z (noA b), e0.bs, e0.bsz, fun b _ _ => noA b, fun b z => absurd z (noA b), e0.funs, e0.frf⟩,
  rfl, e0.bare, Un.kept hk, ⟨_, x.toInCall.ns, fun i y v h1 h2 h3 => ?_⟩, fun y c h => ⟨_, x.cell y c h⟩, e0.hok.fresh (Nat.le_refl _), fun y c h => ?_, fun p hp => absurd (show p ∈ ([] : List (Addr × Obj)) from hp) (by simp), e0.hok.kept hk, ?_⟩
 ·exact name_of_addr x.apart (PySem.mem_of_lookup h1) (PySem.mem_of_lookup h2)
 ·have hy : scope.names.lookup y = some .cell ∨ scope.names.lookup y = some .free := hy
  rcases hy with hy | hy
  ·exact cell_has hy
  ·exact absurd rfl (S.nofree _ (PySem.mem_of_lookup hy))
 ·exact Nat.le_of_lt (x.above y c (PySem.mem_of_lookup h))
 ·have hi : i < vs.length := by
   unfold start at h2
   by_cases hi : i < vs.length
   ·exact hi
   ·rw [List.getElem?_append_right (by simpa using hi)] at h2
    rw [List.getElem?_replicate] at h2
    split at h2 <;> cases h2
  have ha : vs[i]? = some v := by
   unfold start at h2
   rw [List.getElem?_append_left (by simpa using hi), List.getElem?_map] at h2
   cases e : vs[i]? with
   | none => rw [e] at h2; cases h2
   | some a => rw [e] at h2; cases h2; rfl
  obtain ⟨u, hu, rv⟩ := r.get ha
  have hp : ps[i]? = some y := by
   rw [← S.pre, List.getElem?_take_of_lt (by omega)]; exact h1
  have ndP : ps.Nodup := by rw [← S.pre]; exact S.nd.sublist (List.take_sublist _ _)
  refine ⟨u, rv, ?_⟩
  rcases S.par y (List.mem_of_getElem? hp) with k | k
  ·exact .inl ⟨k, bindL_get ndP hp hu k⟩
  ·obtain ⟨c, e⟩ := cell_has (n := s.heap.objs.size + 1) k
   refine .inr ⟨.inl k, c, e, ?_⟩
   have q := x.cell y c e
   rw [bindC_get ndP hp hu (by show scope.names.lookup y ≠ _; rw [k]; decide)] at q
   exact q
 ·exact e0.hok.fresh (Nat.le_of_lt (x.above y c (PySem.mem_of_lookup h)))
 ·unfold start
  show _ = N.length
  rw [List.length_append, List.length_map, List.length_replicate]
  omega
theorem fn_ofU {CX : CXT} {P : Program} {w : World} {K : PySem.W.Frag} {mg : Str → Option Value} {base : Heap} {k : Nat} {f : Addr} {name qual : Str} {params : Arguments} {body : List Stmt} {scope : Scope} {dV kV doc pm cdv ct oc : Value} {an od : Option Addr}
  {osl : Array (Option Value)} {N ps : List Str} {sp : Sp} (lk : K.lookup f = some ⟨oc, od, .func (PySem.W.fnOf name qual params body scope dV kV doc pm an cdv ct), osl⟩) (hcd : PySem.W.codeIn K cdv qual = true) (S : FnScope N ps scope)
  (len : ∀ vs H Q E, sp vs H Q E → vs.length = ps.length)
  (hbody : ∀ (A : Around) (outer : List Env) (s : Shared) (H : Hp) (vs : List V) (Q : VK) (E : XK), RoomU k (A.deeper (envOfC qual scope s.heap.objs.size f cdv)) → sp vs H Q E →
   ∃ t, PSs (cxOfU CX P w K mg base N qual scope f cdv A outer s H E) body t ∧ t { nx := fun _ H' => Q .non H', rt := Q } (start N vs) H) :
  FnOkU P w K mg base CX (k + 1) f (PySem.W.fnOf name qual params body scope dV kV doc pm an cdv ct) ps sp := by
 refine ⟨len, fun A outer s H args us vs Q E hr e0 hb r hsp => ?_⟩
 have hl := len _ _ _ _ hsp
 have KX : K.In s.heap := e0.mod.kin.keeps fun b o e => (e0.bs b o e).1
 have lim : s.heap.NoLimit := e0.mod.nolimit.keeps fun b o e => (e0.bs b o e).1
 have hkind : ∀ y ∈ ps.zip us, scope.names.lookup y.1 = some .local ∨ (scope.names.lookup y.1 = some .cell ∧ ((cellsFrom (s.heap.objs.size + 1) scope.names []).lookup y.1).isSome = true) := fun ⟨n, v⟩ hy => by
  rcases S.par n (List.of_mem_zip hy).1 with q | q
  ·exact .inl q
  ·exact .inr ⟨q, PySem.W.cellsFrom_some _ _ _ (.inl q)⟩
 refine codeAny_call_function hr.depth (KX _ _ lk) rfl S.co S.gen rfl (PySem.W.codeRec_of KX hcd) (hb _ _ _ _ ?_)
 refine wpAny_newFunctionEnv_cells S.kind hkind fun env he s1 x => ?_
 subst he
 refine ⟨lim.keeps x.toInCall.keep, codeAny_func ?_⟩
 obtain ⟨t, ht, hq⟩ := hbody A outer s H vs Q E (hr.deeper _) hsp
 have I : Inv (cxOfU CX P w K mg base N qual scope f cdv A outer s H E) [] (start N vs) H s1 := inv_startU S e0 hl r x
 refine wpAny_mono (ht [] s1 (start N vs) H _ I hq) (fun fl s' hs => ?_) fun e s' hs => hs
 have fin : ∀ {σ' : St} {H' : Hp} {v : V} {u : Value}, Inv (cxOfU CX P w K mg base N qual scope f cdv A outer s H E) [] σ' H' s' → RelV v u → Q v H' → CE outer P w H s Q u s' :=
  fun {σ' H' v u} J rv q => ⟨v, H', J.os, J.bare, J.base, J.hok, rv, q⟩
 cases fl with
 | ret u =>
  obtain ⟨v, σ', H', J, rv, q⟩ := hs
  exact fin J rv q
 | next =>
  obtain ⟨σ', H', J, q⟩ := hs
  exact fin (v := V.non) (u := Value.none) J rfl q
 | brk =>
  obtain ⟨_, _, _, q⟩ := hs
  exact False.elim q
 | cont =>
  obtain ⟨_, _, _, q⟩ := hs
  exact False.elim q
theorem run_fnU {X : Cx} {k : Nat} {f : Addr} {fd : FuncData} {ps : List Str} {sp : Sp} {pins : List (Addr × Obj)} {σ : St} {H : Hp} {s : Shared} {Q : VK} {us : List Value} {vs : List V} (F : FnOkU X.prog X.w X.K X.mg X.base CX0 k f fd ps sp) (hr : RoomU k X.A) (hb : Binds X.K fd ps [])
  (I : Inv X pins σ H s) (r : Vals vs us) (h : sp vs H Q E0) : wpAny (model X.prog X.w) X.A (call (.ref f) us) (EP X pins σ Q) X.xe s := by
 have hl : (us ++ []).length = ps.length := by rw [List.append_nil, ← r.length]; exact F.len _ _ _ _ h
 have b := hb s us I.kIn hl
 rw [List.append_nil] at b
 refine wpAny_call (codeAny_mono (F.run X.A X.stack s H ⟨us, []⟩ us vs Q E0 hr I.env0 b r h) fun r s' hq => ?_)
 cases r with
 | error e => exact False.elim hq
 | ok fl =>
  cases fl with
  | ret u => exact I.after hq
  | next => exact False.elim hq
  | brk => exact False.elim hq
  | cont => exact False.elim hq
def DefU (P : Program) (w : World) (K : PySem.W.Frag) (mg : Str → Option Value) (base : Heap) (x : Str) (k : Nat) (ps : List Str) (sp : Sp) : Prop :=
 ∃ f fd, mg x = some (.ref f) ∧ PySem.W.keepIn K (.ref f) = true ∧ Binds K fd ps [] ∧ FnOkU P w K mg base CX0 k f fd ps sp
theorem pe_defU {X : Cx} {x : Str} {k : Nat} {ps : List Str} {sp : Sp} {p pos : Pos} {e : Expr} {es : List Expr} {t : TA} (D : DefU X.prog X.w X.K X.mg X.base x k ps sp) (hr : RoomU k X.A) (hg : Gl X x) (ha : PA X (e :: es) t)
  (hdb : (x == ("__debug__" : Str)) = false := by decide) (he : starEach (e :: es) X.env = (false, eval e X.env) :: starEach es X.env := by rfl) (hpl : (backTo pos (starEach es X.env)).any (·.1) = false := by rfl) :
  PE X (.Call (.Name x p) (e :: es) [] pos) (tCall sp [] E0 t) := by
 obtain ⟨f, fd, hm, hk, hb, F⟩ := D
 intro pins s σ H Q I h
 refine wpAny_Call_Name_kw (ld_glob I hg hm ?_ hdb)
 refine PySem.W.callWith_K (h₀ := X.base) I.ok.mod.kin hk (thn (ha pos pins s σ H _ I h) fun us s1 ⟨vs, H1, I1, r, q⟩ => ⟨I1.kIn, ?_⟩) he hpl
 have q' : sp (vs ++ []) H1 Q E0 := q
 rw [List.append_nil] at q'
 exact run_fnU F hr hb I1 r q'
theorem FunAt.mkU {P : Program} {w : World} {K : PySem.W.Frag} {mg : Str → Option Value} {base : Heap} {x : Str} {st : Stmt} {N ps : List Str} {k : Nat} {sp : Sp} (F : FunAt K mg x st ps) (S : FnScope N ps (defScope st)) (len : ∀ vs H Q E, sp vs H Q E → vs.length = ps.length)
  (hbody : ∀ (f : Addr) (cdv : Value) (A : Around) (outer : List Env) (s : Shared) (H : Hp) (vs : List V) (Q : VK) (E : XK), RoomU k (A.deeper (envOfC x (defScope st) s.heap.objs.size f cdv)) → sp vs H Q E →
   ∃ t, PSs (cxOfU CX0 P w K mg base N x (defScope st) f cdv A outer s H E).nox (defBody st) t ∧ t { nx := fun _ H' => Q .non H', rt := Q } (start N vs) H) : DefU P w K mg base x (k + 1) ps sp := by
 obtain ⟨f, fd, Fn, hm, hb⟩ := F.ex
 refine ⟨f, fd, hm, Fn.kp, hb, ?_⟩
 obtain ⟨oc, od, kV, doc, pm, an, cdv, ct, osl, rfl, lk, hcd⟩ := Fn.ex
 refine fn_ofU lk hcd S len fun A outer s H vs Q E hr hsp => ?_
 obtain ⟨t, h, q⟩ := hbody f cdv A outer s H vs Q E hr hsp
 exact ⟨t, h.nox, q⟩
end L2

set_option Elab.async false
set_option linter.all false
set_option maxRecDepth 100000
set_option maxHeartbeats 4000000
namespace L2
open PySem PySem.Spec PyProof.Rows
abbrev Cx.pnd (X : Cx) (pn : List (Addr × Obj)) : Cx := { X with pn := pn }
abbrev Cx.held (X : Cx) (e : Value) : Cx := { X with A := X.A.mark (some e), calm := false, xe := fun _ _ => False }
section
variable {X : Cx} {pins : List (Addr × Obj)} {σ : St} {H : Hp} {s : Shared}
theorem Cx.Ok.pnd {pn : List (Addr × Obj)} (ok : X.Ok) : (X.pnd pn).Ok := ⟨ok.mod, ok.kind, ok.glob, ok.blt, ok.above, ok.inj, ok.has, ok.cab, ok.hd, ok.frames, ok.stk, ok.exf, ok.bs, ok.bsz, ok.noex, ok.exfs, ok.funs, ok.frf⟩
theorem Cx.Ok.unpnd {pn : List (Addr × Obj)} (ok : (X.pnd pn).Ok) : X.Ok := ⟨ok.mod, ok.kind, ok.glob, ok.blt, ok.above, ok.inj, ok.has, ok.cab, ok.hd, ok.frames, ok.stk, ok.exf, ok.bs, ok.bsz, ok.noex, ok.exfs, ok.funs, ok.frf⟩
theorem Inv.pnd (I : Inv X pins σ H s) : Inv (X.pnd (X.pn ++ pins)) [] σ H s := ⟨I.ok.pnd, I.os, I.bare, I.base, I.loc, I.cell, I.free, I.freeC, fun p hp => I.pin p (by simpa using hp), I.hok, I.len⟩
theorem Inv.unpnd (I : Inv (X.pnd (X.pn ++ pins)) [] σ H s) : Inv X pins σ H s := ⟨I.ok.unpnd, I.os, I.bare, I.base, I.loc, I.cell, I.free, I.freeC, fun p hp => I.pin p (by simpa using hp), I.hok, I.len⟩
theorem Inv.held (I : Inv X pins σ H s) (e : Value) : Inv (X.held e) pins σ H s := ⟨⟨I.ok.mod, I.ok.kind, I.ok.glob, I.ok.blt, I.ok.above, I.ok.inj, I.ok.has, I.ok.cab, (fun z => nomatch z), I.ok.frames, I.ok.stk, I.ok.exf, I.ok.bs, I.ok.bsz, I.ok.noex, I.ok.exfs, I.ok.funs, I.ok.frf⟩, I.os, I.bare, I.base, I.loc, I.cell, I.free, I.freeC, I.pin, I.hok, I.len⟩
theorem Inv.unheld {e : Value} {ok : X.Ok} (I : Inv (X.held e) pins σ H s) : Inv X pins σ H s := ⟨ok, I.os, I.bare, I.base, I.loc, I.cell, I.free, I.freeC, I.pin, I.hok, I.len⟩
def ExcO (C a : Addr) : HO := HO.ext fun h => ∃ oe, h.get? a = some oe ∧ oe.cls = .ref C
theorem Inv.track {C a : Addr} {oe : Obj} (I : Inv X pins σ H s) (l : Loose X pins H a) (e : s.heap.get? a = some oe) (c : oe.cls = .ref C) : Inv X pins σ (upd H a (ExcO C a)) s := by
 have nb : ∀ b u, H b = some u → b ≠ a := fun b u q => ne_of_none q l.un
 refine ⟨I.ok, I.os, I.bare, ⟨I.base.keep, I.base.slot, fun b o q n hx => ?_, I.base.there, fun b xs q => ?_, fun b o xs q => ?_, fun b ps q => ?_⟩, I.loc, I.cell, ?_, fun x c hc => ?_, fun p hp => ?_, fun b u q => ?_, I.len⟩
 ·have : b ≠ a := by
   rintro rfl
   rcases l.new with z | z
   ·exact hx z
   ·rw [z] at q; cases q
  rw [upd_ne this]; exact I.base.free b o q n hx
 ·have := I.base.tups b xs q
  rw [upd_ne (nb b _ this)]; exact this
 ·have := I.base.frzs b o xs q
  rw [upd_ne (nb b _ this)]; exact this
 ·obtain ⟨m, z⟩ := I.base.tbls b ps q
  exact ⟨m, by rw [upd_ne (nb b _ z)]; exact z⟩
 ·rw [upd_ne (Ne.symm l.loc)]; exact I.free
 ·rw [upd_ne (l.cel x c hc)]; exact I.freeC x c hc
 ·obtain ⟨e1, n, ne, nf, d⟩ := I.pin p hp
  exact ⟨e1, by rw [upd_ne (l.pin p hp)]; exact n, ne, nf, d⟩
 ·by_cases hb : b = a
  ·subst hb
   rw [upd_same] at q; cases q
   exact ⟨⟨oe, e, c⟩, ⟨oe, e⟩, fun h1 h2 ⟨o, z1, z2⟩ k => ⟨o, k o z1, z2⟩⟩
  ·rw [upd_ne hb] at q
   exact (I.hok b u q).stay (fun _ _ _ z => z) (fun c z => by rw [upd_ne (nb c _ z)]; exact z) fun c xs z => by rw [upd_ne (nb c _ z)]; exact z
theorem unbind_ok {M : Model} {A : Around} {E : Value → Shared → Prop} {i : Nat} {x : Str} {v : V} {pos : Pos} {Q : Unit → Shared → Prop} (I : Inv X pins σ H s) (hN : X.N.Nodup) (hi : X.N[i]? = some x) (hk : X.env.scope.names.lookup x = some .local) (hv : σ[i]? = some (some v))
  (h : ∀ s', Inv X pins (σ.set i none) H s' → Q () s') : wpAny M A (unbindBehindTheSuite X.env x pos) Q E s := by
 obtain ⟨m, hn, hl⟩ := id I.loc
 obtain ⟨u, _, lk⟩ := hl i x v hi hv (.inl hk)
 have hm : m x = some u := by
  rcases lk with ⟨_, z⟩ | ⟨z, _⟩
  ·exact z
  ·rcases z with z | z <;> (rw [show X.env.kindOf x = some NameKind.local from hk] at z; cases z)
 have hcls : (X.env.scope.kind == .class || (X.env.scope.kind == .module && X.env.locals != X.env.globals)) = false := by rw [I.ok.kind]; rfl
 unfold unbindBehindTheSuite
 refine wpAny_onRaise (wpAny_unbindName_local hk hn hm hcls fun h' u' hn' hs => h _ ?_)
 have low : ∀ b o, X.s₀.heap.get? b = some o → b ≠ X.env.locals := fun b o e => Nat.ne_of_lt (Nat.lt_of_lt_of_le (Heap.lt_size e) I.ok.above)
 refine ⟨I.ok, I.os, I.bare, ⟨fun b o e n hb hx => (hs.2 b (low b o e)).trans (I.base.keep b o e n hb hx), fun b o e n hb hx => ?_, I.base.free, fun b o e hx => ?_, I.base.tups, I.base.frzs, I.base.tbls⟩, ⟨_, hn', fun j y v' e1 e2 e3 => ?_⟩, fun y c e => ?_, I.free, I.freeC, fun p hp => ?_, fun b o e => ?_, by rw [List.length_set]; exact I.len⟩
 ·obtain ⟨sl, e1⟩ := I.base.slot b o e n hb hx
  exact ⟨sl, (hs.2 b (low b o e)).trans e1⟩
 ·obtain ⟨o', e1⟩ := I.base.there b o e hx
  exact ⟨o', (hs.2 b (low b o e)).trans e1⟩
 ·by_cases hj : j = i
  ·subst hj
   rw [List.getElem?_set] at e2
   simp at e2
  ·rw [List.getElem?_set_ne (Ne.symm hj)] at e2
   obtain ⟨u2, r2, q⟩ := hl j y v' e1 e2 e3
   refine ⟨u2, r2, ?_⟩
   rcases q with ⟨k, e⟩ | ⟨k, c, e, z⟩
   ·refine .inl ⟨k, ?_⟩
    have : y ≠ x := fun e => hj (nodup_ix hN e1 (e ▸ hi))
    simp [this, e]
   ·exact .inr ⟨k, c, e, z.sameBut hs (I.cne y c e)⟩
 ·obtain ⟨w', z⟩ := I.cell y c e
  exact ⟨w', z.sameBut hs (I.cne y c e)⟩
 ·obtain ⟨e, n, ne, nf, d⟩ := I.pin p hp
  exact ⟨(hs.2 p.1 ne).trans e, n, ne, nf, d⟩
 ·refine (I.hok b o e).stay (fun c w' hc q => (hs.2 c ?_).trans q) (fun _ q => q) fun _ _ q => q
  rintro rfl
  rcases hc with rfl | hc
  ·rw [I.free] at e; cases e
  ·rw [I.free] at hc; cases hc
end
def tTry (C : Addr) (i : Nat) (Ec : XK) (tb ts : TS) : TS := fun D σ H => tb D σ H ∧ ∀ (cls : Value) (H1 : Hp) (σ1 : St), Ec cls none H1 → σ1.length = σ.length → cls = .ref C ∧ ∀ a, H1 a = none →
 ts { nx := fun σ2 H2 => D.nx (σ2.set i none) H2, rt := D.rt, bk := fun σ2 H2 => D.bk (σ2.set i none) H2, ct := fun σ2 H2 => D.ct (σ2.set i none) H2 } (σ1.set i (some (.ref a))) (upd H1 a (ExcO C a))
theorem ps_tryAs {X : Cx} {E' : Value → Shared → Prop} {Ec : XK} {C : Addr} {i : Nat} {x n : Str} {body suite : List Stmt} {b0 : Stmt} {np hp pos : Pos} {tb ts : TS} (O : ExcCls X.K X.mg x C) (hg : Gl X x) (hN : X.N.Nodup) (hi : X.N[i]? = some n) (hl : X.env.scope.names.lookup n = some .local)
  (hb : ∀ pn, PSs ((X.pnd pn).exc Ec) body tb) (hs : ∀ pn e, PSs ((X.pnd pn).held e) (b0 :: suite) ts) (hdb : (x == ("__debug__" : Str)) = false := by decide) :
  PS (X.wish E') (.Try body [.ExceptHandler (some (.Name x np)) (some n) (b0 :: suite) hp] [] [] pos) (tTry C i Ec tb ts) := by
 intro pins s σ H D Iw h
 obtain ⟨h1, h2⟩ := h
 have I : Inv X pins σ H s := Iw.unwish
 refine wpAny_Try_except (wpAny_mono (hb (X.pn ++ pins) [] s σ H D (I.pnd.wish _) h1) (fun f s1 z => ?_) fun e s1 z => ?_)
 ·have z' : SP (X.wish E') pins D f s1 := by
   cases f with
   | next => obtain ⟨σ', H', J, q⟩ := z; exact ⟨σ', H', J.unwish.unpnd.wish _, q⟩
   | brk => obtain ⟨σ', H', J, q⟩ := z; exact ⟨σ', H', J.unwish.unpnd.wish _, q⟩
   | cont => obtain ⟨σ', H', J, q⟩ := z; exact ⟨σ', H', J.unwish.unpnd.wish _, q⟩
   | ret u => obtain ⟨v, σ', H', J, r, q⟩ := z; exact ⟨v, σ', H', J.unwish.unpnd.wish _, r, q⟩
  cases f with
  | next => exact wpAny_execs_nil z'
  | brk => exact z'
  | cont => exact z'
  | ret u => exact z'
 ·have z1 : XE (X.pnd (X.pn ++ pins)) Ec e s1 := z
  refine wpAny_mono z1.note (fun _ s2 z2 => wpAny_mono z2.land (fun _ s3 z3 => ?_) fun _ _ q => q) fun _ _ q => q
  obtain ⟨a, L, cls, σ1, H1, fl, S, env0, rest, rfl, hst, hf0, hf, I3, ex, hpp, hS, hE⟩ := id z3
  have hlen : σ1.length = σ.length := I3.len.trans I.len.symm
  obtain ⟨rfl, h3⟩ := h2 cls H1 σ1 hE hlen
  obtain ⟨bm, N, nm, q, bs, hdct, sn, sub, ab, col, dd, k0, k1, k2, k3, k5, mN, hC, hNs, hni, T⟩ := (O X.base I.ok.mod.kin).obj
  have hcl : ∃ oe, s3.heap.get? a = some oe ∧ oe.cls = .ref C := by
   cases ex with
   | made he hc => exact ⟨_, he, hc⟩
   | ent he hc => exact ⟨_, he, hc⟩
  obtain ⟨oe, he, hoc⟩ := hcl
  refine wpAny_handleBy_cons (codeAny_handlers_test (ld_glob (X := (X.pnd (X.pn ++ pins)).held (.ref a)) (I3.held _) hg (O X.base I.ok.mod.kin).bound ?_ hdb)) (by intro q; cases q)
  have hC3 := I3.bk _ _ hC
  refine (?_ : ∀ s3' : Shared, s3' = s3 → wpAny (model X.prog X.w) (X.A.mark (some (.ref a))) (excMatches (.ref a) (.ref C)) _ _ s3') s3 rfl
  rintro ⟨hh, g, d, tk, os⟩ e3
  refine wpAny_excMatches_sub_self (C := C) (nm := nm) (q := q) (N := N) (bs := bs) (bm := bm) (hdct := hdct) (sn := sn) (sub := sub) (ab := ab) (col := col) (dd := dd) (k0 := k0) (k1 := k1) (k2 := k2) (k3 := k3) (k5 := k5) (newId := "ValueError.__new__") (oe := oe)
   (by rw [← e3] at hC3; exact hC3) (by rw [← e3] at he; exact he) hoc (T.hasType (by decide +kernel)) ?_
  rw [e3]
  refine codeAny_handlers_suite_as ?_
  refine wpAny_mono z3.land (fun _ s4 z4 => ?_) fun _ _ q => q
  obtain ⟨a', L', cls', σ4, H4, fl4, S4, env4, rest4, ea, hst4, hf04, hf4, I4, ex4, hpp4, hS4, hE4⟩ := z4
  cases ea
  have hlen4 : σ4.length = σ.length := I4.len.trans I.len.symm
  obtain ⟨rfl, h4⟩ := h2 cls' H4 σ4 hE4 hlen4
  have hcl4 : ∃ oe, s4.heap.get? a = some oe ∧ oe.cls = .ref C := by
   cases ex4 with
   | made he hc => exact ⟨_, he, hc⟩
   | ent he hc => exact ⟨_, he, hc⟩
  obtain ⟨oe4, he4, hoc4⟩ := hcl4
  have la : Loose (X.pnd (X.pn ++ pins)) [] H4 a := by
   cases ex4 with
   | made => exact hS4 a (by simp)
   | ent => exact hS4 a (by simp)
  have I5 := (I4.track la he4 hoc4).held (.ref a)
  refine store_ok (X := (X.pnd (X.pn ++ pins)).held (.ref a)) (v := .ref a) I5 hN hi (.inl hl) rfl (fun s5 I6 => ?_) (.inr hl)
  refine wpAny_mono (hs (X.pn ++ pins) (.ref a) [] s5 _ _ _ I6 (h4 a la.un)) (fun f s6 z6 => ?_) fun _ _ q => False.elim q
  have iσ : ∀ σ' : St, σ'.length = X.N.length → (σ'.set i (some V.non))[i]? = some (some V.non) := fun σ' hl' => List.getElem?_set_self (by rw [hl']; exact (List.getElem?_eq_some_iff.mp hi).1)
  have fin : ∀ {σ' : St} {H' : Hp} {Q : Unit → Shared → Prop}, Inv ((X.pnd (X.pn ++ pins)).held (.ref a)) [] σ' H' s6 → (∀ s8, Inv (X.wish E') pins (σ'.set i none) H' s8 → Q () s8) → wpAny (model X.prog X.w) X.A (do bindName X.env n .none; unbindBehindTheSuite X.env n hp) Q (X.wish E').xe s6 := fun {σ' H' Q} J k => by
   refine wpAny_bind (wpAny_bindName (store_ok (X := (X.pnd (X.pn ++ pins)).held (.ref a)) (v := .non) J hN hi (.inl hl) rfl (fun s7 J7 => ?_) (.inr hl)))
   refine unbind_ok (X := (X.pnd (X.pn ++ pins)).held (.ref a)) J7 hN hi hl (iσ σ' J.len) fun s8 J8 => k s8 ?_
   rw [List.set_set] at J8
   exact (J8.unheld (ok := I3.ok)).unpnd.wish _
  cases f with
  | next => obtain ⟨σ', H', J, q⟩ := z6; exact fin J fun s8 J8 => ⟨_, _, J8, q⟩
  | brk => obtain ⟨σ', H', J, q⟩ := z6; exact fin J fun s8 J8 => ⟨_, _, J8, q⟩
  | cont => obtain ⟨σ', H', J, q⟩ := z6; exact fin J fun s8 J8 => ⟨_, _, J8, q⟩
  | ret u => obtain ⟨v, σ', H', J, r, q⟩ := z6; exact fin J fun s8 J8 => ⟨v, _, _, J8, r, q⟩
end L2

set_option Elab.async false
set_option linter.all false
set_option maxRecDepth 100000
set_option maxHeartbeats 8000000
namespace L2
open PySem PySem.Spec PyProof.Rows
structure ExcLook (K : PySem.W.Frag) (C : Addr) : Prop where
 ga : PySem.W.findIn K (.ref C) "__getattribute__" = some (some (.builtin "BaseException.__getattribute__"))
 gn : PySem.W.findIn K (.ref C) "__getattr__" = some none
 cl : PySem.W.findIn K (.ref C) "__class__" = some (some (.builtin "object.__class__"))
 mb : PySem.W.mroIn K C (.type "BaseException") = some true
 mo : PySem.W.mroIn K C (.type "object") = some true
 ty : (PySem.W.clsIn K C).isSome = true
section
variable {prog : Program} {w : World} {A : Around} {E : Value → Shared → Prop} {h : Heap} {g : Array GenState} {d : Drawn} {t : Nat} {os : OsState} {a C : Addr} {o : Obj} {K : PySem.W.Frag}
theorem xcls_get {R : Result → Shared → Prop} (X : K.In h) (F : ExcLook K C) (hx : h.get? a = some o) (hc : o.cls = .ref C) (q : R (.ok (.ret (.ref C))) ⟨h, g, d, t, os⟩) :
  codeAny (model prog w) A (.call (.builtin "getset_descriptor.__get__") ⟨[.builtin "object.__class__", .ref a, .ref C], []⟩) R ⟨h, g, d, t, os⟩ := by
 have hT5 : (⟨h, g, d, t, os⟩ : Shared).TypeIs (.builtin "object.__class__") "getset_descriptor" := PySem.F.typeOf_object_class
 have L := PySem.W.looks_mroIn (M := model prog w) X F.mo
 have eo : (Value.type (".".intercalate ("object.__class__".cutAt '.').dropLast)) = .type "object" := by rw [PySem.F.owner_object_class]
 refine codeAny_call_builtin PySem.F.slot_gs_get.plain PySem.F.entry_gs_get (PySem.F.slot_gs_get.check _ _ _ _ _ _ _ _ hT5 (PySem.F.args_gs_get _ _ _) ?_)
 repeat (any_goals (first | assumption | (with_reducible refine wpAny_loadPart_at hx ?_; rw [hc]) | (rw [eo]; with_reducible refine L.at ?_) | wp_step))
 refine ⟨Code.quiet_builtin _ (by decide +kernel), codeAny_builtin PySem.F.entry_object_class ?_⟩
 repeat (any_goals (first | assumption | (with_reducible refine wpAny_loadPart_at hx ?_; rw [hc]) | wp_step))
theorem xcls_entry {tk : Tok} {Q : Fin → Shared → Prop} (X : K.In h) (F : ExcLook K C) (hx : h.get? a = some o) (hc : o.cls = .ref C) (q : Q (.done (.ret (.ref C))) ⟨h, g, d, t, os⟩) :
  wpAny (model prog w) A (Builtin.«object.__getattribute__» ⟨[.ref a, .str "__class__" tk], []⟩) Q E ⟨h, g, d, t, os⟩ := by
 have hT5 : (⟨h, g, d, t, os⟩ : Shared).TypeIs (.builtin "object.__class__") "getset_descriptor" := PySem.F.typeOf_object_class
 have L := PySem.W.looks_findIn (M := model prog w) X F.cl
 have f5 := PySem.F.typeOf_object_class
 have f6 := PySem.F.slot_gs_get.lookup
 have f7 := PySem.F.slot_gs_set.lookup
 repeat (any_goals (first | assumption | (with_reducible refine wpAny_loadPart_at hx ?_; rw [hc]) | (with_reducible refine L.at ?_) | wp_step))
 refine xcls_get X F hx hc ?_
 repeat (any_goals (first | assumption | wp_step))
theorem xcls_check {nameV : Value} {Q : Unit → Shared → Prop} (X : K.In h) (F : ExcLook K C) (hx : h.get? a = some o) (hc : o.cls = .ref C) (q : Q () ⟨h, g, d, t, os⟩) :
  wpAny (model prog w) A (checkBuiltinCall "BaseException.__getattribute__" ⟨[.ref a, nameV], []⟩) Q E ⟨h, g, d, t, os⟩ := by
 have hk : builtinKind "BaseException.__getattribute__" = some .slot := by decide +kernel
 have hsplit : splitId "BaseException.__getattribute__" = some ("BaseException", "__getattribute__") := by decide +kernel
 have ha := PySem.F.args_bexc_ga (.ref a) nameV
 have L := PySem.W.looks_mroIn (M := model prog w) X F.mb
 simp only [checkBuiltinCall, hk, hsplit]
 refine wpAny_bind ?_
 unfold isInstance
 repeat (first | (with_reducible refine wpAny_loadPart_at hx ?_; rw [hc]) | (with_reducible refine L.at ?_) | wp_step)
 exact q
theorem xcls_call {tk : Tok} {R : Result → Shared → Prop} (X : K.In h) (F : ExcLook K C) (hx : h.get? a = some o) (hc : o.cls = .ref C) (q : R (.ok (.ret (.ref C))) ⟨h, g, d, t, os⟩) :
  codeAny (model prog w) A (.call (.builtin "BaseException.__getattribute__") ⟨[.ref a, .str "__class__" tk], []⟩) R ⟨h, g, d, t, os⟩ :=
 codeAny_call_builtin PySem.F.attrBase_ValueError.ga.plain PySem.F.entry_bexc_ga (xcls_check X F hx hc (xcls_entry X F hx hc q))
theorem xcls_by {tk : Tok} {Q : Value → Shared → Prop} (X : K.In h) (F : ExcLook K C) (hx : h.get? a = some o) (hc : o.cls = .ref C) (q : Q (.ref C) ⟨h, g, d, t, os⟩) :
  wpAny (model prog w) A (getAttrBy (.ref a) (.str "__class__" tk) false) Q E ⟨h, g, d, t, os⟩ := by
 have f3 := PySem.F.attrBase_ValueError.ga.bind (.ref a)
 have L1 := PySem.W.looks_findIn (M := model prog w) X F.ga
 have L2 := PySem.W.looks_findIn (M := model prog w) X F.gn
 have hx2 : (Value.builtin "BaseException.__getattribute__" == Value.builtin "object.__getattribute__") = false := by decide +kernel
 have hx1 : (onTheHeap (Value.ref C) && Value.builtin "BaseException.__getattribute__" == Value.builtin "object.__getattribute__") = false := by rw [hx2]; rfl
 repeat (any_goals (first | assumption | (with_reducible refine wpAny_loadPart_at hx ?_; rw [hc]) | (with_reducible refine L1.at ?_) | (with_reducible refine L2.at ?_) | wp_step))
 refine xcls_call X F hx hc ?_
 repeat (any_goals (first | assumption | wp_step))
theorem xcls_attr {Q : Option Value → Shared → Prop} (X : K.In h) (F : ExcLook K C) (hx : h.get? a = some o) (hc : o.cls = .ref C) (q : Q (some (.ref C)) ⟨h, g, d, t + 1, os⟩) :
  wpAny (model prog w) A (getAttr? (.ref a) "__class__") Q E ⟨h, g, d, t, os⟩ := by
 unfold getAttr? getAttrBy?
 repeat (any_goals (first | assumption | (with_reducible refine xcls_by X F hx hc ?_) | wp_step))
end
end L2

set_option Elab.async false
set_option linter.all false
set_option maxRecDepth 100000
set_option maxHeartbeats 4000000
namespace L2
open PySem PySem.Spec PyProof.Rows
theorem kitx_exc {K : PySem.W.Frag} {a C : Addr} (F : ExcLook K C) : PySem.W.KitX K (.ref a) (.ref C) (fun h => ∃ o, h.get? a = some o ∧ o.cls = .ref C) where
 ty := fun M h _ ⟨o, h1, h2⟩ => h2 ▸ (PySem.W.Looks.ld h1).andThen .now
 it := fun _ _ X _ => by
  have z := F.ty
  unfold PySem.W.clsIn at z
  split at z
  ·rename_i c' d' cd' sl' ho
   intro A' Q' E' s' k q
   unfold isType loadHead
   exact wpAny_bind (wpAny_loadPart (k _ _ (X _ _ ho)) (wpAny_pure q))
  ·cases z
 ne := fun h tp dd its n sl X htp => by
  have z := F.ty
  refine Bool.eq_false_iff.mpr fun q => ?_
  have e : C = tp := Value.ref.inj (beq_iff_eq.mp q)
  subst e
  unfold PySem.W.clsIn at z
  split at z
  ·rename_i c' d' cd' sl' ho
   have y := (X _ _ ho).symm.trans htp
   cases y
  ·cases z
 ca := fun {prog w A E Q s} X p q => by
  obtain ⟨h, g, d, t, os⟩ := s
  obtain ⟨o, h1, h2⟩ := p
  exact xcls_attr X F h1 h2 q
def cval : V → Option Value
 | .ty T => some (.type T)
 | .ref D => some (.ref D)
 | _ => none
section
variable {X : Cx}
theorem exc_at {P : Program} {w : World} {H : Hp} {h : Heap} {a C : Addr} (ok : HOk P w H h) (e : H a = some (ExcO C a)) : ∃ o, h.get? a = some o ∧ o.cls = .ref C := (ok a _ e).1
theorem call_isiX : CallR X (.builtin "isinstance") (fun xs H Q => ∃ (a C : Addr) (cv : V) (c : Value) (b : Bool), xs = [.ref a, cv] ∧ cval cv = some c ∧ H a = some (ExcO C a) ∧ ExcLook X.K C ∧ PySem.W.kitOne X.K (.ref C) c = some b ∧ Q (.bl b) H) := by
 intro pins s σ H xs us Q I r h
 obtain ⟨a, C, cv, c, b, rfl, hcv, ha, F, e, q⟩ := h
 obtain ⟨u, u', rfl, rx, ry⟩ := vals2 r
 cases rx
 have hu : u' = c := by
  cases cv with
  | ty T => cases ry; exact Option.some.inj hcv
  | ref D => cases ry; exact Option.some.inj hcv
  | _ => cases hcv
 subst hu
 exact PySem.W.kia_one (kitx_exc F) I.kIn (exc_at I.hok ha) e (fun z => nomatch z) fun tk => ⟨.bl b, H, I.tok tk, rfl, q⟩
theorem call_isiXt : CallR X (.builtin "isinstance") (fun xs H Q => ∃ (a C p : Addr) (ds : List Addr) (b : Bool), xs = [.ref a, .ref p] ∧ H p = some (.tup (ds.map V.ref)) ∧ H a = some (ExcO C a) ∧ ExcLook X.K C ∧ PySem.W.kitAny X.K (.ref C) (ds.map Value.ref) = some b ∧ Q (.bl b) H) := by
 intro pins s σ H xs us Q I r h
 obtain ⟨a, C, p, ds, b, rfl, hp, ha, F, e, q⟩ := h
 obtain ⟨u, u', rfl, rx, ry⟩ := vals2 r
 cases rx
 cases ry
 obtain ⟨_, its, rv, o, h1, h2, n, h3⟩ := I.hok p _ hp
 have hits : its = ds.map Value.ref := by
  have : ∀ (ds : List Addr) (its : List Value), Vals (ds.map V.ref) its → its = ds.map Value.ref := by
   intro ds
   induction ds with
   | nil => intro its r; cases r; rfl
   | cons x r ih => intro its rr; cases rr with | cons y t => cases y; rw [ih _ t]; rfl
  exact this ds its rv
 obtain ⟨oc, od, odt, osl⟩ := o
 cases h2
 cases h3
 rw [hits] at h1
 exact PySem.W.kia_tup (kitx_exc F) I.kIn (exc_at I.hok ha) h1 e (fun z => nomatch z) fun tk => ⟨.bl b, H, I.tok tk, rfl, q⟩
end
def DefE (P : Program) (w : World) (K : PySem.W.Frag) (mg : Str → Option Value) (base : Heap) (x : Str) (k : Nat) (ps : List Str) (sp : Sp) : Prop :=
 ∃ f fd, mg x = some (.ref f) ∧ PySem.W.keepIn K (.ref f) = true ∧ Binds K fd ps [] ∧ FnOk P w K mg base (CX1 P w) k f fd ps sp
theorem pe_defE {X : Cx} {E : XK} {x : Str} {k : Nat} {ps : List Str} {sp : Sp} {p pos : Pos} {e : Expr} {es : List Expr} {t : TA} (fr : Framed X) (D : DefE X.prog X.w X.K X.mg X.base x k ps sp) (hr : Room k X.A) (hg : Gl X x) (ha : PA (X.exc E) (e :: es) t)
  (hdb : (x == ("__debug__" : Str)) = false := by decide) (he : starEach (e :: es) X.env = (false, eval e X.env) :: starEach es X.env := by rfl) (hpl : (backTo pos (starEach es X.env)).any (·.1) = false := by rfl) :
  PE (X.exc E) (.Call (.Name x p) (e :: es) [] pos) (tCall sp [] E t) := by
 obtain ⟨f, fd, hm, hk, hb, F⟩ := D
 exact pe_call (X := X.exc E) F hr hg hm hk hb .nil (passes1 fr) ha hdb he hpl
theorem framed_comp {X : Cx} {N' : List Str} {scope : Scope} {cl : List (Str × Addr)} {C : Addr} {ex : List Addr} {s : Shared} {H : Hp} (f : Framed X) : Framed (cxComp X N' scope cl C ex s H) := f
theorem framed_pnd {X : Cx} {pn : List (Addr × Obj)} (f : Framed X) : Framed (X.pnd pn) := f
theorem FunAt.mkE {P : Program} {w : World} {K : PySem.W.Frag} {mg : Str → Option Value} {base : Heap} {x : Str} {st : Stmt} {N ps : List Str} {k : Nat} {sp : Sp} (F : FunAt K mg x st ps) (S : FnScope N ps (defScope st)) (len : ∀ vs H Q E, sp vs H Q E → vs.length = ps.length)
  (hbody : ∀ (f : Addr) (cdv : Value) (A : Around) (outer : List Env) (s : Shared) (H : Hp) (vs : List V) (Q : VK) (E : XK), Room k (A.deeper (envOfC x (defScope st) s.heap.objs.size f cdv)) → sp vs H Q E →
   ∃ t, PSs ((cxOf (CX1 P w) P w K mg base N x (defScope st) f cdv A outer s H E).exc E) (defBody st) t ∧ t { nx := fun _ H' => Q .non H', rt := Q } (start N vs) H) : DefE P w K mg base x (k + 1) ps sp := by
 obtain ⟨f, fd, Fn, hm, hb⟩ := F.ex
 exact ⟨f, fd, hm, Fn.kp, hb, Fn.okE S len (hbody f)⟩
end L2

set_option Elab.async false
set_option linter.all false
set_option maxRecDepth 100000
namespace L2
open PySem PySem.Spec PyProof.Rows
section
variable {κ : Type} [DecidableEq κ]
def putK (kvs : List (κ × V)) (k : κ) (v : V) : List (κ × V) :=
 if (kvs.any fun kv => decide (kv.1 = k)) = true then kvs.map (fun kv => if kv.1 = k then (kv.1, v) else kv) else kvs ++ [(k, v)]
theorem length_putK (kvs : List (κ × V)) (k : κ) (v : V) : (putK kvs k v).length ≤ kvs.length + 1 := by
 unfold putK
 split
 ·rw [List.length_map]; omega
 ·rw [List.length_append, List.length_cons, List.length_nil]; omega
theorem KV.any {kvs : List (κ × V)} {vs : List (κ × Value)} (r : KV kvs vs) (k : κ) : (kvs.any fun kv => decide (kv.1 = k)) = vs.any fun kv => decide (kv.1 = k) := by
 unfold KV at r
 induction r with
 | nil => rfl
 | cons h t ih => rw [List.any_cons, List.any_cons, ih, h.1]
theorem KV.repl {kvs : List (κ × V)} {vs : List (κ × Value)} (r : KV kvs vs) (k : κ) {y : V} {u : Value} (ry : RelV y u) :
  KV (kvs.map fun kv => if kv.1 = k then (kv.1, y) else kv) (vs.map fun kv => if kv.1 = k then (kv.1, u) else kv) := by
 unfold KV at r ⊢
 induction r with
 | nil => exact .nil
 | @cons p q ps qs h t ih =>
  rw [List.map_cons, List.map_cons]
  refine .cons ?_ ih
  obtain ⟨h1, h2⟩ := h
  by_cases e : p.1 = k
  ·rw [if_pos e, if_pos (h1.symm.trans e)]; exact ⟨h1, ry⟩
  ·rw [if_neg e, if_neg (fun z => e (h1.trans z))]; exact ⟨h1, h2⟩
theorem KV.put {kvs : List (κ × V)} {vs : List (κ × Value)} (r : KV kvs vs) (k : κ) {y : V} {u : Value} (ry : RelV y u) : KV (putK kvs k y) (stored vs k u) := by
 unfold putK stored
 rw [r.any k]
 by_cases e : (vs.any fun kv => decide (kv.1 = k)) = true
 ·rw [if_pos e, if_pos e]; exact r.repl k ry
 ·rw [if_neg e, if_neg e]; exact Paired.snoc r ⟨rfl, ry⟩
end
theorem kV_is {P : Program} {w : World} {k : Key} {u : Value} (r : RelV (kV k) u) : (mixKind P w).is k u = true := by
 cases k with
 | inl i => obtain ⟨t, e⟩ := (show ∃ t, u = Value.int i t from r); subst e; exact mixKind_int P w i t
 | inr x => obtain ⟨t, e⟩ := (show ∃ t, u = Value.str x t from r); subst e; exact mixKind_str P w x t
section
variable {P : Program} {w : World} {H : Hp} {h : Heap} {a : Addr}
theorem rd_of {u : HO} (ok : HOk P w H h) (e : Rd H a u) : ObjOk P w H h a u := e.ok ok
theorem dk_rd {kvs : List (Key × V)} (ok : HOk P w H h) (e : Rd H a (.dK kvs)) : kvs.length ≤ sizeLine ∧ (a == sysModules) = false ∧ ∃ vs, KV kvs vs ∧ h.DictOf (mixKind P w) a vs :=
 show ObjOk P w H h a (.dK kvs) from rd_of ok e
theorem dk_of {kvs : List (Key × V)} (ok : HOk P w H h) (e : H a = some (.dK kvs)) : kvs.length ≤ sizeLine ∧ (a == sysModules) = false ∧ ∃ vs, KV kvs vs ∧ h.DictOf (mixKind P w) a vs := dk_rd ok (.inl e)
end
section
variable {X : Cx} {pins : List (Addr × Obj)} {σ : St} {H : Hp} {s : Shared} {a : Addr} {y v : V} {u r : Value} {o : Option V} {A : Around} {E : Value → Shared → Prop}
theorem Inv.big (I : Inv X pins σ H s) : sysModules < s.heap.objs.size := by
 have h : mainGlobals < s.heap.objs.size := (I.mod.glob.keeps I.bk).lt
 exact Nat.lt_trans (by decide) h
theorem d_write {h' : Heap} {t' : Nat} {ob : HO} (I : Inv X pins σ H s) (mu : Mut (H a)) (hs : Heap.SameBut a s.heap h') (he : ∃ q, h'.get? a = some q) (new : ObjOk X.prog X.w (upd H a ob) h' a ob) :
  Inv X pins σ (upd H a ob) { s with heap := h', toks := t' } :=
 I.write (x := a) (e := a) mu (.inl rfl) (fun b q hb z => (hs.2 b hb).trans z) he new
theorem dk_new {P : Program} {w : World} {H' : Hp} {h' : Heap} {kvs : List (Key × V)} {vs : List (Key × Value)} (z : kvs.length ≤ sizeLine) (hd : (a == sysModules) = false) (rel : KV kvs vs) (dd : h'.DictOf (mixKind P w) a vs) :
  ObjOk P w H' h' a (.dK kvs) := ⟨z, hd, vs, rel, dd⟩
end
section
variable {X : Cx} {pins : List (Addr × Obj)} {σ : St} {H : Hp} {s : Shared} {a : Addr} {kvs : List (Key × V)} {k : Key} {u : Value} {A : Around} {E : Value → Shared → Prop}
end
section
variable {X : Cx} {o i e value : Expr} {pos pos' tpos : Pos} {td ty tv : TE}
end
theorem dk_empty {P : Program} {w : World} {H : Hp} (h : Heap) (hb : sysModules < h.objs.size) : ObjOk P w H (h.push { cls := .type "dict", data := .dict #[] }) h.objs.size (.dK []) :=
 ⟨Nat.zero_le _, beq_eq_false_iff_ne.mpr (Ne.symm (Nat.ne_of_lt hb)), [], .nil, Heap.DictOf.new h⟩
def tDNewK : TE := fun _ H Q => ∀ p, H p = none → Q (.ref p) (upd H p (.dK []))
section
variable {X : Cx} {pos : Pos}
theorem pe_dnewK : PE X (.Dict [] [] pos) tDNewK := fun pins s σ H Q I h =>
 wpAny_Dict_empty ⟨.ref s.heap.objs.size, _, I.laid (a := s.heap.objs.size) (o := .dK []) (t' := s.toks) (fun _ _ q => Heap.get?_push_of_some _ q) (Nat.le_refl _) (dk_empty s.heap I.big), rfl, h _ (I.hok.fresh (Nat.le_refl _))⟩
end
def tPairs : List (TE × TE) → St → Hp → (List (V × V) → Hp → Prop) → Prop
 | [], _, H, Q => Q [] H
 | (tk, tv) :: r, σ, H, Q => tk σ H fun x H1 => tv σ H1 fun y H2 => tPairs r σ H2 fun ps H3 => Q ((x, y) :: ps) H3
abbrev VV : List (V × V) → List (Value × Value) → Prop := Paired fun p q => RelV p.1 q.1 ∧ RelV p.2 q.2
def PPs (X : Cx) (pos : Pos) (keys : List (Option Expr)) (values : List Expr) (trs : List (TE × TE)) : Prop :=
 ∀ (pins : List (Addr × Obj)) (s : Shared) (σ : St) (H : Hp) (Q : List (V × V) → Hp → Prop), Inv X pins σ H s → tPairs trs σ H Q →
  wpAny (model X.prog X.w) X.A (evalPairs (pairTrees keys values X.env pos)) (fun vs s' => ∃ ps H', Inv X pins σ H' s' ∧ VV ps vs ∧ Q ps H') X.xe s
theorem pps_nil {X : Cx} {pos : Pos} : PPs X pos [] [] [] := fun pins s σ H Q I h => pairTrees_nil_walk ⟨[], H, I, .nil, h⟩
theorem pps_cons {X : Cx} {pos : Pos} {k v : Expr} {ks : List (Option Expr)} {vs : List Expr} {tk tv : TE} {trs : List (TE × TE)} (hk : PE X k tk) (hv : PE X v tv) (hr : PPs X pos ks vs trs) :
  PPs X pos (some k :: ks) (v :: vs) ((tk, tv) :: trs) := fun pins s σ H Q I h =>
 pairTrees_cons_walk (thn (hk pins s σ H _ I h) fun u s1 ⟨x, H1, I1, rx, q1⟩ => thn (hv pins s1 σ H1 _ I1 q1) fun w2 s2 ⟨y, H2, I2, ry, q2⟩ =>
  thn (hr pins s2 σ H2 _ I2 q2) fun ws s3 ⟨ps, H3, I3, rel, q3⟩ => ⟨(x, y) :: ps, H3, I3, .cons ⟨rx, ry⟩ rel, q3⟩)
def mergeK (kvs more : List (Key × V)) : List (Key × V) := more.foldl (fun acc kv => putK acc kv.1 kv.2) kvs
theorem KV.merge : ∀ {more : List (Key × V)} {rs : List (Key × Value)} {kvs : List (Key × V)} {vs : List (Key × Value)}, KV more rs → KV kvs vs → KV (mergeK kvs more) (merged vs rs) := by
 intro more rs kvs vs r
 unfold KV at r
 induction r generalizing kvs vs with
 | nil => intro q; exact q
 | @cons p q ps qs h t ih =>
  intro r0
  have e : KV (putK kvs p.1 p.2) (stored vs q.1 q.2) := by
   have := r0.put p.1 h.2
   rw [← h.1]; exact this
  exact ih e
theorem length_mergeK : ∀ (more kvs : List (Key × V)), (mergeK kvs more).length ≤ kvs.length + more.length
 | [], kvs => by show kvs.length ≤ kvs.length + 0; omega
 | p :: r, kvs => by
  have h1 := length_mergeK r (putK kvs p.1 p.2)
  have h2 := length_putK kvs p.1 p.2
  show (mergeK (putK kvs p.1 p.2) r).length ≤ _
  rw [List.length_cons]; omega
theorem carries_of {P : Program} {w : World} : ∀ {kvs : List (Key × V)} {ws : List (Value × Value)}, VV (kvs.map fun kv => (kV kv.1, kv.2)) ws → ∃ rs, Carries (mixKind P w) ws rs ∧ KV kvs rs
 | [], _, r => by rw [List.map_nil] at r; cases r; exact ⟨[], True.intro, .nil⟩
 | p :: kvs, _, r => by
  rw [List.map_cons] at r
  cases r with
  | @cons a b as bs h t =>
   obtain ⟨rs, c, q⟩ := carries_of (P := P) (w := w) t
   obtain ⟨b1, b2⟩ := b
   exact ⟨(p.1, b2) :: rs, ⟨kV_is h.1, rfl, c⟩, .cons ⟨rfl, h.2⟩ q⟩
def tDisp (trs : List (TE × TE)) : TE := fun σ H Q => ∀ p, H p = none → tPairs trs σ (upd H p (.dK [])) fun ps H2 => H2 p = some (.dK []) ∧ ∃ kvs : List (Key × V), ps = kvs.map (fun kv => (kV kv.1, kv.2)) ∧ kvs.length ≤ 15 ∧ Q (.ref p) (upd H2 p (.dK (mergeK [] kvs)))
theorem pe_disp {X : Cx} {pos : Pos} {keys : List (Option Expr)} {values : List Expr} {trs : List (TE × TE)} (h : PPs X pos keys values trs) (hall : keys.all (·.isSome) = true) (hl : keys.length = values.length) (h0 : keys ≠ [])
  (h15 : keys.length ≤ 15) : PE X (.Dict keys values pos) (tDisp trs) := by
 intro pins s σ H Q I q
 have hn := I.hok.fresh (Nat.le_refl s.heap.objs.size)
 have I1 := I.laid (a := s.heap.objs.size) (o := .dK []) (h' := s.heap.push { cls := .type "dict", data := .dict #[] }) (t' := s.toks) (fun _ _ q => Heap.get?_push_of_some _ q) (Nat.le_refl _) (dk_empty s.heap I.big)
 refine wpAny_Dict_walk (knd := mixKind X.prog X.w) hall hl h0 h15 (thn (h pins _ σ _ _ I1 (q _ hn)) fun ws s2 ⟨ps, H2, I2, rel, e, kvs, ep, lk, q2⟩ => ?_)
 subst ep
 obtain ⟨rs, c, rk⟩ := carries_of (P := X.prog) (w := X.w) rel
 obtain ⟨z, hd, vs0, r0, dd⟩ := dk_of I2.hok e
 cases r0
 refine ⟨rs, c, dd, fun h' dd' hs => ⟨.ref s.heap.objs.size, _, ?_, rfl, q2⟩⟩
 have hz : (mergeK [] kvs).length ≤ sizeLine := by
  have h1 := length_mergeK kvs []
  rw [List.length_nil] at h1
  rw [sizeLine_eq]; omega
 have he : ∃ q, h'.get? s.heap.objs.size = some q := let ⟨q, _, _, hq, _⟩ := dd'; ⟨q, hq⟩
 exact d_write I2 (by rw [e]; exact True.intro) hs he (dk_new hz hd (rk.merge .nil) dd')
structure M1 (X : Cx) (o : Expr) (m : Str) (apos : Pos) (e : Expr) (cpos : Pos) : Prop where
 base : attributeBase o m X.env (eval o X.env) = eval o X.env
 few : ((backTo cpos (starEach [e] X.env)).all (fun x => !x.1) && (backToKw cpos (keywordEach [] X.env)).all (fun x => x.1.isSome)
  && decide (([e] : List Expr).length + ([] : List Keyword).length + (if ([] : List Keyword).isEmpty then 0 else 1) < 30)) = true
 line : (apos.endLine == cpos.line) = true
 trees : backTo cpos (starEach [e] X.env) = [(false, eval e X.env)]
structure M2 (X : Cx) (o : Expr) (m : Str) (apos : Pos) (e f : Expr) (cpos : Pos) : Prop where
 base : attributeBase o m X.env (eval o X.env) = eval o X.env
 few : ((backTo cpos (starEach [e, f] X.env)).all (fun x => !x.1) && (backToKw cpos (keywordEach [] X.env)).all (fun x => x.1.isSome)
  && decide (([e, f] : List Expr).length + ([] : List Keyword).length + (if ([] : List Keyword).isEmpty then 0 else 1) < 30)) = true
 line : (apos.endLine == cpos.line) = true
 trees : backTo cpos (starEach [e, f] X.env) = [(false, eval e X.env), (false, eval f X.env)]
section
variable {X : Cx} {pins : List (Addr × Obj)} {σ : St} {H : Hp} {s : Shared} {a : Addr} {y d : V} {u r : Value} {o : Option V} {A : Around} {E : Value → Shared → Prop}
end
section
variable {X : Cx} {o e f : Expr} {apos cpos : Pos} {td ty tx : TE}
end
section
variable {X : Cx} {pins : List (Addr × Obj)} {σ : St} {H : Hp} {s : Shared} {a : Addr} {kvs : List (Key × V)} {A : Around} {E : Value → Shared → Prop}
end
section
variable {X : Cx} {pins : List (Addr × Obj)} {σ : St} {H : Hp} {s : Shared} {a : Addr} {y : V} {u : Value} {A : Around} {E : Value → Shared → Prop}
end
end L2
namespace L2
open PySem PySem.Spec PyProof.Rows
section
variable {κ : Type} [DecidableEq κ]
end
end L2

set_option Elab.async false
set_option linter.all false
set_option maxRecDepth 100000
set_option maxHeartbeats 4000000
namespace L2
open PySem PySem.Spec PyProof.Rows
theorem codeAny_compLoop_if {prog : Program} {w : World} {A : Around} {R : Result → Shared → Prop} {s : Shared} {elt cnd target iter : Expr} {scope : Scope} {pos : Pos} {it acc : Value} {env : Env} (I : Nat → Shared → Prop)
  (turn : ∀ n s, I n s → wpAny (model prog w) A (pyNext it) (fun r s1 => match r with
   | none => R (.ok .next) s1
   | some v => wpAny (model prog w) A (letOwnedTupleGo target it v) (fun _ s1' => wpAny (model prog w) A (assign target env v) (fun _ s2 =>
     wpAny (model prog w) A (isTrue cnd env (eval cnd env)) (fun b s3 => if b = true then wpAny (model prog w) A (eval elt env) (fun x s4 =>
       wpAny (model prog w) A (call (.builtin "list.append") [acc, x]) (fun _ s5 => ∃ m, m < n ∧ I m s5) (notedBy (model prog w) A env fun e s' => R (.error e) s') s4) (notedBy (model prog w) A env fun e s' => R (.error e) s') s3 else ∃ m, m < n ∧ I m s3) (notedBy (model prog w) A env fun e s' => R (.error e) s') s2)
     (notedBy (model prog w) A env fun e s' => R (.error e) s') s1') (notedBy (model prog w) A env fun e s' => R (.error e) s') s1) (notedBy (model prog w) A env fun e s' => R (.error e) s') s)
  (n : Nat) (h : I n s) : codeAny (model prog w) A (.compLoop (.ListComp elt [⟨target, iter, [cnd], 0⟩] scope pos) 0 it acc env) R s := by
 refine codeAny_loop rfl I (fun n s hI => ?_) n h
 show wpAny _ A ((compTurn (.ListComp elt [⟨target, iter, [cnd], 0⟩] scope pos) 0 it acc env).onRaise (fun x => do noteFrame x env; theTreesLotGoes x)) _ _ s
 refine wpAny_noted ?_
 rw [compTurn_list]
 refine wpAny_bind (wpAny_standAt (wpAny_bind (wpAny_mono (turn n s hI) (fun r s1 h1 => ?_) fun _ _ h' => h')))
 cases r with
 | none => exact wpAny_pure h1
 | some v =>
  refine wpAny_bind (wpAny_mono h1 (fun _ s1' h1' => ?_) fun _ _ h' => h')
  refine wpAny_bind (wpAny_mono h1' (fun _ s2 h2 => wpAny_bind (wpAny_mono (wpAny_tests_one h2) (fun ok s3 h3 => ?_) fun _ _ h' => h')) fun _ _ h' => h')
  cases ok with
  | true => exact wpAny_bind (wpAny_bind (wpAny_mono h3 (fun x s4 h4 => wpAny_bind (wpAny_mono h4 (fun _ s5 h5 => wpAny_pure (wpAny_pure ⟨rfl, h5⟩)) fun _ _ h' => h')) fun _ _ h' => h'))
  | false => exact wpAny_bind (wpAny_pure (wpAny_pure ⟨rfl, h3⟩))
def CompOkF (n : Nat) (J : It) (g : TG) (tc : TT) (te : TE) (σ : St) (H : Hp) (Q : VK) : Prop :=
 ∃ W : Nat → Nat → List V → St → Hp → Prop, (∃ m, W 0 m [] (List.replicate n none ++ σ) H) ∧ ∀ i m ys σ' H, W i m ys σ' H →
  (J.stop i H ∧ ∀ D, H D = none → Q (.ref D) (upd H D (.lst ys))) ∨
  (J.go i H ∧ ys.length < sizeLine ∧ ∀ x H', J.yld i H x H' → g x σ' H' fun σ2 H2 => tc σ2 H2 fun b H3 => if b = true then ∃ N : VK, te σ2 H3 N ∧ ∀ v H4, N v H4 → ∃ m', m' < m ∧ W (i + 1) m' (ys ++ [v]) σ2 H4 else ∃ m', m' < m ∧ W (i + 1) m' ys σ2 H3)
def tCompF (n : Nat) (wi : TI) (g : InBlock TG) (tc : InBlock TT) (te : InBlock TE) : TE := fun σ H Q => wi σ H fun J H1 => ∀ cl C ex s Hc, CompOkF n J (g cl C ex s Hc) (tc cl C ex s Hc) (te cl C ex s Hc) σ H1 Q
section
variable {X : Cx} {n : Nat} {N' : List Str} {scope : Scope} {elt cnd tg iter : Expr} {pos : Pos} {pins : List (Addr × Obj)} {σ : St} {H2 : Hp} {s2 : Shared} {cl : List (Str × Addr)}
theorem comp_blockF {E0 : XK} {it : Addr} {fp : List Addr} {tn : Nat → Heap → Prop} {J : It} {g : InBlock TG} {tc : InBlock TT} {te : InBlock TE} {Q : VK} {E : Value → Shared → Prop}
  (hc : X.calm = true) (S : CompScope n N' X scope) (c1 : ∀ x c, cl.lookup x = some c → X.env.cells.lookup x = some c) (c2 : ∀ x ∈ scope.names, x.2 = .free → ∃ c, cl.lookup x.1 = some c)
  (I2 : Inv X pins σ H2 s2) (T : Turn X.prog X.w X.K tg J fp it tn) (st2 : tn 0 s2.heap) (f2 : ∀ b ∈ fp, FpOk X pins H2 b)
  (hg : ∀ cl C ex s H, PG ((cxComp X N' scope cl C ex s H).exc E0) tg (g cl C ex s H)) (hcn : ∀ cl C ex s H, PT ((cxComp X N' scope cl C ex s H).exc E0) cnd (tc cl C ex s H)) (he : ∀ cl C ex s H, PE ((cxComp X N' scope cl C ex s H).exc E0) elt (te cl C ex s H))
  (cok : ∀ cl C ex s Hc, CompOkF n J (g cl C ex s Hc) (tc cl C ex s Hc) (te cl C ex s Hc) σ H2 Q) :
  wpAny (model X.prog X.w) X.A (newList []) (fun acc s3 => wpAny (model X.prog X.w) X.A (newFunctionEnv scope X.env.globals cl [] X.env.qual none .none (some X.env)) (fun cenv s4 =>
   codeAny (model X.prog X.w) X.A (.compStart (.ListComp elt [⟨tg, iter, [cnd], 0⟩] scope pos) 0 (.ref it) acc { cenv with scope := relabel scope X.env })
    (fun r s' => match r with | .ok _ => CompBack X pins σ Q acc cenv.locals s' | .error x => XHeld (cxComp X N' scope cl cenv.locals fp s2 H2) E0 x s') s4) E s3) E s2 := by
 have fl : ∀ b ∈ fp, @LT.lt Nat _ b s2.heap.objs.size := fun b hb => by
  obtain ⟨o, e, _⟩ := T.obj _ _ st2 b hb
  exact Heap.lt_size e
 have frl : ∀ b ∈ frs X.stack, @LT.lt Nat _ b s2.heap.objs.size := fun b hb => by
  obtain ⟨_, o, ho, _⟩ := I2.stack.mem hb
  exact Heap.lt_size ho
 have celll : ∀ x c, X.env.cells.lookup x = some c → @LT.lt Nat _ c s2.heap.objs.size := fun x c e => by
  obtain ⟨v, q⟩ := I2.cell x c e
  exact q.lt
 refine wpAny_newObj_type (wpAny_newFunctionEnv S.cell (by intro y hy; simp at hy) (fun h1 hns1 hsb1 => ?_) S.kind)
 dsimp only at hns1 hsb1 ⊢
 generalize hH2 : s2.heap.push { cls := .type "list", dict := none, data := .seq ([] : List Value).toArray } = G at hns1 hsb1 ⊢
 have hC : @Eq Nat G.objs.size (s2.heap.objs.size + 1) := by rw [← hH2, Heap.size_push]
 have hDC : s2.heap.objs.size ≠ G.objs.size := by show @Ne Nat _ _; omega
 have below : ∀ b, @LT.lt Nat _ b s2.heap.objs.size → b ≠ G.objs.size ∧ b ≠ s2.heap.objs.size := fun b hb => ⟨by show @Ne Nat _ _; omega, Nat.ne_of_lt hb⟩
 have old : ∀ b o, s2.heap.get? b = some o → h1.get? b = some o := fun b o e => hsb1.extBut b o (below b (Heap.lt_size e)).1 (Heap.get?_push_of_some _ (hH2 ▸ Heap.get?_push_of_some _ e))
 have hacc : h1.get? s2.heap.objs.size = some { cls := .type "list", data := .seq ([] : List Value).toArray 0 } := hsb1.extBut _ _ hDC (Heap.get?_push_of_some _ (hH2 ▸ Heap.get?_push_size _ rfl))
 have hst1 : tn 0 h1 := T.keep _ _ _ st2 fun b hb o e => old b o e
 let X' := cxComp X N' scope cl G.objs.size fp s2 H2
 obtain ⟨W, ⟨m0, w0⟩, turn⟩ := cok cl G.objs.size fp s2 H2
 have hXe : X'.xe = X.xe := rfl
 have stat : ∀ {H' : Hp} {ps : List (Addr × Obj)}, (∀ b ∈ fp, H' b = none) → (∀ p ∈ ps, p.1 = s2.heap.objs.size) → ∀ b ∈ fp, FpOk X' ps H' b := fun {H' ps} hn hp b hb => by
  obtain ⟨f0, f1, ff, f3, f4, f5⟩ := f2 b hb
  refine ⟨hn b hb, (below b (fl b hb)).1, fun z => ?_, .inl hb, fun x c e z => ?_, fun p hp' z => ?_⟩
  ·exact (List.mem_cons.mp (I2.stkSub b z)).elim f1 ff
  ·exact f4 x c (c1 x c e) z
  ·have e : p.1 = s2.heap.objs.size := hp p (by simpa [X', cxComp] using hp')
   exact (below b (fl b hb)).2 (z.symm.trans e)
 have loop : ∀ s3 : Shared, s3 = { s2 with heap := h1, toks := s2.toks + ([] : List (Str × Value)).length } →
   codeAny (model X.prog X.w) X.A (.compLoop (.ListComp elt [⟨tg, iter, [cnd], 0⟩] scope pos) 0 (.ref it) (.ref s2.heap.objs.size) (compEnvC scope cl G.objs.size X.env))
    (fun r s' => match r with | .ok _ => CompBack X pins σ Q (.ref s2.heap.objs.size) G.objs.size s' | .error x => XHeld (cxComp X N' scope cl G.objs.size fp s2 H2) E0 x s') s3 := by
  rintro s3 rfl
  have I3 := comp_inv (us := []) (k := 0) (s' := { s2 with heap := h1, toks := s2.toks + ([] : List (Str × Value)).length }) S c1 c2 I2 f2 fl rfl hC rfl rfl old ⟨_, hns1⟩ hacc
  refine codeAny_compLoop_if (fun m s' => ∃ i ys us k σ' H', Inv X' [(s2.heap.objs.size, { cls := .type "list", data := .seq (us : List Value).toArray k })] σ' H' s' ∧ Vals ys us ∧ tn i s'.heap ∧ (∀ b ∈ fp, H' b = none) ∧ ys.length ≤ sizeLine ∧ W i m ys σ' H') ?_ m0
   ⟨0, [], [], 0, _, H2, I3, .nil, hst1, fun b hb => (f2 b hb).1, Nat.zero_le _, w0⟩
  rintro m s' ⟨i, ys, us, k, σ', H', I', rv, st', fr', hlen, w'⟩
  rcases turn i m ys σ' H' w' with ⟨stop, q⟩ | ⟨go, hlt, step⟩
  ·refine thn (T.done X' rfl rfl rfl hc i _ s' σ' H' _ I' (stat fr' (by simp)) st' stop) fun r s4 ⟨hr, I4⟩ => ?_
   subst hr
   show CompBack X pins σ Q (.ref s2.heap.objs.size) G.objs.size s4
   obtain ⟨m1, hn1, _⟩ := I4.loc
   obtain ⟨pD, nD, _, _, _⟩ := I4.pin (s2.heap.objs.size, { cls := .type "list", data := .seq us.toArray k }) (List.mem_append_right _ (by simp))
   have nD : H' s2.heap.objs.size = none := nD
   have pD : s4.heap.get? s2.heap.objs.size = some { cls := .type "list", data := .seq us.toArray k } := pD
   have hok : HOk X.prog X.w (upd H' s2.heap.objs.size (.lst ys)) s4.heap := fun b u e => by
    by_cases hb : b = s2.heap.objs.size
    ·subst hb
     rw [upd_same] at e; cases e
     exact ⟨hlen, us, k, rv, pD⟩
    ·rw [upd_ne hb] at e
     exact (I4.hok b u e).stay (fun _ _ _ q => q) (fun c q => by rw [upd_ne (ne_of_none q nD)]; exact q) fun c xs q => by rw [upd_ne (ne_of_none q nD)]; exact q
   have un : Un (frs X.stack) fp H2 (upd H' s2.heap.objs.size (.lst ys)) s2.heap s4.heap := by
    have u0 := I4.base
    refine ⟨u0.keep, u0.slot, fun b o e n hx => ?_, u0.there, fun b xs e => ?_, fun b o xs e => ?_, fun b ps e => ?_⟩
    ·rw [upd_ne (below b (Heap.lt_size e)).2]; exact u0.free b o e n hx
    ·have q := u0.tups b xs e
     rw [upd_ne (ne_of_none q nD)]; exact q
    ·have q := u0.frzs b o xs e
     rw [upd_ne (ne_of_none q nD)]; exact q
    ·obtain ⟨more, q⟩ := u0.tbls b ps e
     exact ⟨more, by rw [upd_ne (ne_of_none q nD)]; exact q⟩
   have IX : Inv X pins σ (upd H' s2.heap.objs.size (.lst ys)) s4 := I2.call' (ch := fp) I4.os un hok I4.bare fun b hb => by
    obtain ⟨f0, f1, ff, f3, f4, f5⟩ := f2 b hb
    exact ⟨f3, f1, f4, f5⟩
   have hG0 : H' G.objs.size = none := I4.free
   refine ⟨s2.heap.objs.size, _, m1, rfl, IX, hn1, ⟨by rw [upd_ne (Ne.symm hDC)]; exact hG0, fun z => ?_, fun z => ?_, .inr ?_, fun x c e z => ?_, fun p hp z => ?_⟩, q _ nD⟩
   ·have q1 : @LT.lt Nat _ X.env.locals s2.heap.objs.size := I2.lt
    have q2 : @Eq Nat G.objs.size X.env.locals := z
    omega
   ·have z' : G.objs.size ∈ frs X.outer := z
    obtain ⟨_, o, ho, _⟩ := I2.funs.mem z'
    have q1 : @LT.lt Nat _ G.objs.size s2.heap.objs.size := Heap.lt_size ho
    omega
   ·have q1 := I2.sz
    show @LE.le Nat _ X.s₀.heap.objs.size G.objs.size
    omega
   ·have q1 := celll x c e
    have q2 : @Eq Nat c G.objs.size := z
    omega
   ·have q1 : @LT.lt Nat _ p.1 s2.heap.objs.size := Heap.lt_size (I2.pin p hp).1
    have q2 : @Eq Nat p.1 G.objs.size := z
    omega
  ·refine thn (T.item X' rfl rfl rfl hc i _ s' σ' H' _ I' (stat fr' (by simp)) st' go) fun r s4 ⟨u, hr, h4⟩ => ?_
   subst hr
   show wpAny _ _ (letOwnedTupleGo tg (.ref it) u) _ _ s4
   refine thn h4 fun _ s5 ⟨x, H5, I5, r5, y5, st5, fr5⟩ => ?_
   have I5' := I5.pinned (stat fr5 (by simp)) (T.obj _ _ st5)
   have w1 := hg cl G.objs.size fp s2 H2 _ s5 σ' H5 x u _ (I5'.wish _) r5 (step x H5 y5)
   refine wpAny_mono w1 (fun _ s6 ⟨σ6, H6, I6, q6⟩ => ?_) fun v s hv => wpAny_mono (XE.note (X := cxComp X N' scope cl G.objs.size fp s2 H2) (E := E0) hv) (fun _ _ z => z) fun _ _ z => z
   have w15 := hcn cl G.objs.size fp s2 H2 _ s6 σ6 H6 _ I6 q6
   refine wpAny_mono w15 (fun bb s65 ⟨H65, I65, q65⟩ => ?_) fun v s hv => wpAny_mono (XE.note (X := cxComp X N' scope cl G.objs.size fp s2 H2) (E := E0) hv) (fun _ _ z => z) fun _ _ z => z
   cases bb with
   | false =>
    rw [if_neg Bool.false_ne_true] at q65 ⊢
    obtain ⟨m', hm', w65⟩ := q65
    have I66 := I65.unwish
    have pinD := I66.pin (s2.heap.objs.size, { cls := .type "list", data := .seq us.toArray k }) (List.mem_append_right _ (List.mem_append_left _ (by simp)))
    refine ⟨m', hm', i + 1, ys, us, k, σ6, H65, I66.pins_of (fun p hp => by rw [List.mem_singleton.mp hp]; exact pinD), rv, T.keep _ _ _ st5 fun b hb o e => ?_, fun b hb => ?_, hlen, w65⟩
    ·exact (I66.pin (b, o) (List.mem_append_right _ (List.mem_append_right _ (mem_pinsAt hb e)))).1
    ·obtain ⟨o, e, d⟩ := T.obj _ _ st5 b hb
     exact (I66.pin (b, o) (List.mem_append_right _ (List.mem_append_right _ (mem_pinsAt hb e)))).2.1
   | true =>
   rw [if_pos rfl] at q65 ⊢
   obtain ⟨NN, q6, hNN⟩ := q65
   have I6 := I65
   have H6 := H65
   have w2 := he cl G.objs.size fp s2 H2 _ s65 σ6 H65 _ I6 q6
   refine wpAny_mono w2 (fun y s7 ⟨v, H7, I7w, r7, q7⟩ => ?_) fun v s hv => wpAny_mono (XE.note (X := cxComp X N' scope cl G.objs.size fp s2 H2) (E := E0) hv) (fun _ _ z => z) fun _ _ z => z
   have I7 := I7w.unwish
   obtain ⟨m', hm', w7⟩ := hNN v H7 q7
   have pinD := I7.pin (s2.heap.objs.size, { cls := .type "list", data := .seq us.toArray k }) (List.mem_append_right _ (List.mem_append_left _ (by simp)))
   obtain ⟨pD, nD, lD, fD, _⟩ := pinD
   refine append_at (hsz := by rw [List.size_toArray, ← rv.length]; exact hlen) pD fun h8 hs8 hD8 => ?_
   have nD : H7 s2.heap.objs.size = none := nD
   have I8 : Inv X' (pinsAt fp s5.heap) σ6 H7 { s7 with heap := h8 } := by
    refine (I7.pins_of (pins' := pinsAt fp s5.heap) fun p hp => I7.pin p (List.mem_append_right _ (List.mem_append_right _ hp))).turned (t' := s7.toks) (it := s2.heap.objs.size) (fun b o hb e => (hs8.2 b hb).trans e) nD lD (.inr (Nat.le_refl _)) (fun x c e z => ?_) fun p hp z => ?_
    ·have q1 := celll x c (c1 x c e)
     have q2 : @Eq Nat c s2.heap.objs.size := z
     omega
    ·have hp' : p ∈ pinsAt fp s5.heap := by simpa [X', cxComp] using hp
     have q1 := fl p.1 (of_pinsAt hp').1
     have q2 : @Eq Nat p.1 s2.heap.objs.size := z
     omega
   have I9 : Inv X' [(s2.heap.objs.size, { cls := .type "list", data := .seq (us ++ [y]).toArray (k + 1) })] σ6 H7 { s7 with heap := h8 } := I8.pins_of fun p hp => by
    have e : p = (s2.heap.objs.size, { cls := .type "list", data := .seq (us ++ [y]).toArray (k + 1) }) := by simpa using hp
    subst e
    refine ⟨by rw [hD8, List.push_toArray], nD, lD, fD, fun v z => by cases z⟩
   refine ⟨m', hm', i + 1, ys ++ [v], us ++ [y], k + 1, σ6, H7, I9, rv.append (.cons r7 .nil), T.keep _ _ _ st5 fun b hb o e => ?_, fun b hb => ?_, by rw [List.length_append, List.length_singleton]; omega, w7⟩
   ·exact (I8.pin (b, o) (List.mem_append_right _ (mem_pinsAt hb e))).1
   ·obtain ⟨o, e, d⟩ := T.obj _ _ st5 b hb
    exact (I8.pin (b, o) (List.mem_append_right _ (mem_pinsAt hb e))).2.1
 exact codeAny_compStart_list (loop _ rfl) (T.self _ 0 _ _ _ hst1 (loop _ rfl))
theorem ps_setCompF {E0 : XK} {wi : TI} {g : InBlock TG} {tc : InBlock TT} {te : InBlock TE} {i : Nat} {x : Str} {pos' spos : Pos} (hN : X.N.Nodup) (hi0 : X.N[i]? = some x) (hx : Loc X.env.scope x)
  (hsw : swapsWith (.ListComp elt [⟨tg, iter, [cnd], 0⟩] scope pos) (some (.Name x pos')) spos.line X.env = pure true)
  (fr : Framed X) (hc : X.calm = true) (S : CompScope n N' X scope) (hi : PI (X.exc E0) tg iter wi)
  (hg : ∀ cl C ex s H, PG ((cxComp X N' scope cl C ex s H).exc E0) tg (g cl C ex s H)) (hcn : ∀ cl C ex s H, PT ((cxComp X N' scope cl C ex s H).exc E0) cnd (tc cl C ex s H)) (he : ∀ cl C ex s H, PE ((cxComp X N' scope cl C ex s H).exc E0) elt (te cl C ex s H))
  (hs : ∀ x, foldedSetIterable iter X.env x = pure x := by intro _; rfl) (hf : X.fn x = true ∨ X.env.scope.names.lookup x = some .local := by first | exact .inl rfl | exact .inr rfl | assumption) :
  PS (X.exc E0) (.Assign [.Name x pos'] (.ListComp elt [⟨tg, iter, [cnd], 0⟩] scope pos) spos) (tAsg (tCompF n wi g tc te) (gName i)) := by
 intro pins s σ H D I h
 rw [exec_Assign_Name_used _ _ _ _ hsw]
 refine wpAny_bind (wpAny_standAt (wpAny_bind ?_))
 obtain ⟨cl, hcl, c1, c2⟩ := closure_ok (scope := scope) (env := X.env) fun x hx hf => I.ok.has x.1 (S.free x hx hf)
 show wpAny _ _ (do let _ ← comprehension (.ListComp elt [⟨tg, iter, [cnd], 0⟩] scope pos) scope X.env _ (newList []) false (eval iter X.env) (some (assign (.Name x pos') X.env))) _ _ s
 refine wpAny_bind (wpAny_mono (wpAny_comprehension_free (use := some (assign (.Name x pos') X.env)) (Q := fun _ s' => SP (X.exc E0) pins D .next s') rfl hs hcl S.kind S.names
  (thn (hi pins s σ H _ I h) fun v s1 h1 => thn h1 fun itv s2 h2 => ?_)) (fun _ s' hq => wpAny_pure (wpAny_pure hq)) fun _ _ e => e)
 obtain ⟨it, fp, tn, J, H2, e, I2w, T, st2, f2, cok⟩ := h2
 subst e
 have I2 := I2w.unwish
 refine wpAny_mono (comp_blockF (X := X) (E0 := E0) (pos := pos) (iter := iter) (E := (X.exc E0).xe) (Q := fun x H1 => gName i x σ H1 D.nx) hc S c1 c2 I2 T st2 f2 hg hcn he cok) (fun acc s3 h3 => wpAny_mono h3 (fun cenv s4 h4 => codeAny_mono h4 fun r s' hr => ?_) fun _ _ z => z) fun _ _ z => z
 cases r with
 | error e => exact comp_fails I2 f2 fr hr
 | ok f =>
  obtain ⟨Dl, H', m, rfl, I', hn, ⟨f0, f1, ff, f3, f4, f5⟩, q⟩ := hr
  show wpAny _ _ (assign (.Name x pos') X.env (.ref Dl)) _ _ s'
  refine wpAny_assign_Name (store_ok2 I' hN hi0 hx (v := .ref Dl) (u := .ref Dl) rfl (fun s'' I'' hb => ?_) hf)
  obtain ⟨a, sb, ha⟩ := hb
  have hCa : cenv.locals ≠ a := by
   rcases ha with rfl | ha
   ·exact f1
   ·exact fun z => f4 x a ha z.symm
  refine ⟨m, hn.sameBut sb hCa, fun h' hs' => ⟨_, H', Inv.wish ?_ _, q⟩⟩
  exact I''.turned (t' := s''.toks) (fun b o hb e => (hs'.2 b hb).trans e) f0 f1 f3 f4 f5
end
end L2

set_option Elab.async false
set_option linter.all false
set_option maxRecDepth 100000
set_option maxHeartbeats 4000000
namespace L2
open PySem PySem.Spec PyProof.Rows
section
variable {X : Cx} {pins : List (Addr × Obj)} {σ : St} {H : Hp} {s : Shared}
theorem Inv.trackO {a : Addr} {o : HO} (I : Inv X pins σ H s) (l : Loose X pins H a) (ok : ObjOk X.prog X.w (upd H a o) s.heap a o) : Inv X pins σ (upd H a o) s := by
 have nb : ∀ b u, H b = some u → b ≠ a := fun b u q => ne_of_none q l.un
 refine ⟨I.ok, I.os, I.bare, ⟨I.base.keep, I.base.slot, fun b o q n hx => ?_, I.base.there, fun b xs q => ?_, fun b o xs q => ?_, fun b ps q => ?_⟩, I.loc, I.cell, ?_, fun x c hc => ?_, fun p hp => ?_, fun b u q => ?_, I.len⟩
 ·have : b ≠ a := by
   rintro rfl
   rcases l.new with z | z
   ·exact hx z
   ·rw [z] at q; cases q
  rw [upd_ne this]; exact I.base.free b _ q n hx
 ·have := I.base.tups b xs q
  rw [upd_ne (nb b _ this)]; exact this
 ·have := I.base.frzs b o xs q
  rw [upd_ne (nb b _ this)]; exact this
 ·obtain ⟨m, z⟩ := I.base.tbls b ps q
  exact ⟨m, by rw [upd_ne (nb b _ z)]; exact z⟩
 ·rw [upd_ne (Ne.symm l.loc)]; exact I.free
 ·rw [upd_ne (l.cel x c hc)]; exact I.freeC x c hc
 ·obtain ⟨e1, n, ne, nf, d⟩ := I.pin p hp
  exact ⟨e1, by rw [upd_ne (l.pin p hp)]; exact n, ne, nf, d⟩
 ·by_cases hb : b = a
  ·subst hb
   rw [upd_same] at q; cases q
   exact ok
  ·rw [upd_ne hb] at q
   exact (I.hok b u q).stay (fun _ _ _ z => z) (fun c z => by rw [upd_ne (nb c _ z)]; exact z) fun c xs z => by rw [upd_ne (nb c _ z)]; exact z
theorem FpOk.loose {b : Addr} (f : FpOk X pins H b) : Loose X pins H b := by
 obtain ⟨f0, f1, f2, f3, f4, f5⟩ := f
 exact ⟨f0, f3.imp id Heap.get?_none_of_le, f1, f4, f5⟩
end
def Ite (K : PySem.W.Frag) (a : Addr) : It :=
 ⟨fun i H => ∃ xs x, SqL K H a xs ∧ xs[i]? = some x, fun i H v H' => ∃ p y, H p = none ∧ v = .ref p ∧ H' = upd H p (.tup [.int i, y]) ∧ ∀ xs, SqL K H a xs → xs[i]? = some y, fun i H => ∃ xs, SqL K H a xs ∧ xs.length ≤ i⟩
theorem turn_enum {P : Program} {w : World} {K : PySem.W.Frag} {elts : List Expr} {k : Nat} {tpos : Pos} (a it e : Addr) (hei : e ≠ it) : Turn P w K (.Tuple elts k tpos) (Ite K a) [e, it] e (fun i h => (∃ old, IsEnum h e it i old) ∧ h.IsListIter it a i) where
 mem := by simp
 obj := fun i h st b hb => by
  obtain ⟨⟨old, he⟩, o, e1, _, d1⟩ := st
  rcases List.mem_cons.mp hb with rfl | hb
  ·exact ⟨_, he, fun v z => by cases z⟩
  ·rw [List.mem_singleton.mp hb]
   exact ⟨o, e1, fun v z => by rw [d1] at z; cases z⟩
 keep := fun i h h' st k => by
  obtain ⟨⟨old, he⟩, o, e1, r⟩ := st
  exact ⟨⟨old, k e (by simp) _ he⟩, o, k it (by simp) o e1, r⟩
 item := by
  intro X hP hw hK hc i pins s σ H E I hf st hg
  subst hP hw hK
  obtain ⟨xs, x, hq, hx⟩ := hg
  obtain ⟨its, rv, pl, hz⟩ := I.list hq
  obtain ⟨u, hu, ru⟩ := rv.get hx
  obtain ⟨⟨old, he⟩, hit⟩ := st
  have D := Draws.list (prog := X.prog) (w := X.w) (A := X.A.in1) (by simpa using I.ok.hd hc) it a (by
   rintro rfl
   obtain ⟨_, e1, c1, _⟩ := hit
   obtain ⟨_, _, e2, c2, _⟩ := pl
   rw [e1] at e2; cases e2
   rw [c1] at c2
   exact absurd (Value.type.inj c2) (by decide)) its.toArray
  have hi : i < its.toArray.size := by simpa using (List.getElem?_eq_some_iff.mp hu).1
  have hea : e ∉ [it, a] := by
   intro z
   rcases List.mem_cons.mp z with z | z
   ·exact hei z
   ·rw [List.mem_singleton.mp z] at he
    obtain ⟨_, _, e2, c2, _⟩ := pl
    rw [he] at e2; cases e2
    exact absurd (Value.type.inj c2) (by decide)
  refine wpAny_pyNext_enum_itemD D he ⟨hit, pl.isList⟩ hi hei hea fun x' h' tk hP ho hs' hT hsz hk => ?_
  obtain rfl : x' = u := by
   have : its.toArray[i]? = some u := by simpa using hu
   rw [this] at hP; exact (Option.some.inj hP).symm
  refine ⟨_, rfl, ?_⟩
  refine wpAny_letOwnedTupleGo_enum (s := { s with heap := h', toks := tk + 1 }) ho fun h2 he2 sb2 => ?_
  have k2 : ∀ b o, b ∉ [e, it] → s.heap.get? b = some o → h2.get? b = some o := fun b o nb q => (sb2.2 b (fun z => nb (by simp [z]))).trans (hk b o (fun z => nb (by simp [z])) (fun z => nb (by simp [z])) q)
  have lo : ∀ b ∈ [e, it], Loose X pins H b := fun b hb => (hf b hb).loose
  have nF : ∀ b ∈ [e, it], b ∉ frs X.stack := fun b hb z => by
   obtain ⟨_, f1, f2, _⟩ := hf b hb
   exact (List.mem_cons.mp (I.stkSub b z)).elim f1 f2
  have I2 : Inv X pins σ H { s with heap := h2, toks := tk + 1 } := I.fly (t' := tk + 1) lo (fun b o q n _ => k2 b o n q) fun b o q hb => ⟨o.slots, k2 b o (fun z => nF b z hb) q⟩
  have hn : H s.heap.objs.size = none := I.hok.fresh (Nat.le_refl _)
  have hTn : s.heap.objs.size ≠ e := Nat.ne_of_gt (Heap.lt_size he)
  have hT2 : h2.get? s.heap.objs.size = some { cls := .type "tuple", data := .seq #[.int i tk, x'] } := (sb2.2 _ hTn).trans hT
  have lT : Loose X pins H s.heap.objs.size := I.loose (Heap.get?_none_of_le (Nat.le_refl _))
  have hok : ObjOk X.prog X.w (upd H s.heap.objs.size (.tup [.int i, x])) h2 s.heap.objs.size (.tup [.int i, x]) := ⟨(by show 2 ≤ sizeLine; decide), [.int i tk, x'], .cons ⟨tk, rfl⟩ (.cons ru .nil), ⟨_, hT2, rfl, 0, rfl⟩⟩
  refine ⟨.ref s.heap.objs.size, upd H s.heap.objs.size (.tup [.int i, x]), I2.trackO lT hok, rfl, ⟨_, x, hn, rfl, rfl, fun ys hy => by rw [I.list_inj hy hq]; exact hx⟩, ⟨⟨_, by simpa using he2⟩, ?_⟩, fun b hb => ?_⟩
  ·obtain ⟨o, e1, r⟩ := hs'.1
   exact ⟨o, (sb2.2 it (Ne.symm hei)).trans e1, r⟩
  ·have : b ≠ s.heap.objs.size := by
    rcases List.mem_cons.mp hb with rfl | hb
    ·exact Ne.symm hTn
    ·rw [List.mem_singleton.mp hb]
     obtain ⟨_, e1, _⟩ := hit
     exact Nat.ne_of_lt (Heap.lt_size e1)
   rw [upd_ne this]; exact (hf b hb).1
 done := by
  intro X hP hw hK hc i pins s σ H E I hf st hg
  subst hP hw hK
  obtain ⟨xs, hq, hx⟩ := hg
  obtain ⟨its, rv, pl, hz⟩ := I.list hq
  obtain ⟨⟨old, he⟩, hit⟩ := st
  have hl := rv.length
  refine wpAny_pyNext_enum_end (I.ok.hd hc) he hit pl.isList (by simp; omega) fun h' eb => ⟨rfl, ?_⟩
  obtain ⟨f0, f1, f2, f3, f4, f5⟩ := hf it (by simp)
  exact I.turned (t' := s.toks) (fun b o hb e => eb b o hb e) f0 f1 f3 f4 f5
 self := fun _ _ _ _ _ st h => by
  obtain ⟨⟨old, he⟩, _⟩ := st
  exact wpAny_pyIter_enum he h
section
variable {X : Cx} {elts : List Expr} {k : Nat} {tpos : Pos}
theorem boot_enum : bootBuiltins "enumerate" = some (.type "enumerate") := by decide +kernel
def iEnum (K : PySem.W.Frag) (ta : TA) : TI := fun σ H R => ta σ H fun vs H1 => ∃ a xs, vs = [.ref a] ∧ SqL K H1 a xs ∧ R (Ite K a) H1
theorem pi_enum {a : Expr} {ta : TA} {p pos : Pos} (hg : Gl X "enumerate") (hm : X.mg "enumerate" = none) (ha : PA X [a] ta) (hs : starEach [a] X.env = [(false, eval a X.env)] := by rfl) : PI X (.Tuple elts k tpos) (.Call (.Name "enumerate" p) [a] [] pos) (iEnum X.K ta) := by
 intro pins s σ H R I h
 refine Call_ (ld_blt I hg hm boot_enum (PyProof.Rows.callWith_type1 (thn (ha pos pins s σ H _ I h) fun us s1 ⟨vs, H1, I1, r1, q1⟩ => ?_) hs rfl))
 obtain ⟨b, xs, e, hq, q⟩ := q1
 subst e
 cases r1 with
 | cons r rr =>
  cases rr
  cases r
  obtain ⟨its, rv, pl, hz⟩ := I1.list hq
  refine call_enumerate_list pl.isList fun h' hE hI hsz hk => ?_
  refine wpAny_pyIter_enum hE ?_
  refine ⟨s1.heap.objs.size + 1, [s1.heap.objs.size + 1, s1.heap.objs.size], _, _, H1, rfl, I1.kept (t' := s1.toks) hk, turn_enum b s1.heap.objs.size (s1.heap.objs.size + 1) (Nat.succ_ne_self _), ⟨⟨_, hE⟩, hI⟩, fun c hc => ?_, q⟩
  rcases List.mem_cons.mp hc with rfl | hc
  ·exact I1.fpOk (Nat.le_succ _) (I1.hok.fresh (Nat.le_succ _))
  ·rw [List.mem_singleton.mp hc]
   exact I1.fpOk (Nat.le_refl _) (I1.hok.fresh (Nat.le_refl _))
end
end L2

set_option Elab.async false
set_option linter.all false
set_option maxRecDepth 100000
set_option maxHeartbeats 1000000
namespace L2
open PySem PySem.Spec PyProof.Rows
mutual
inductive RdD (R : Addr → Prop) (H : Hp) : V → PyData → Prop where
 | non : RdD R H .non .none
 | bl (b : Bool) : RdD R H (.bl b) (.bool b)
 | int (i : Int) : RdD R H (.int i) (.int i)
 | str (x : Str) : RdD R H (.str x) (.str x)
 | lst {a : Addr} {xs : List V} {ds : List PyData} : R a → H a = some (.lst xs) → RdB R H xs ds → RdD R H (.ref a) (.list ds)
 | tup {a : Addr} {xs : List V} {ds : List PyData} : R a → H a = some (.tup xs) → RdB R H xs ds → RdD R H (.ref a) (.tuple ds)
 | d0 {a : Addr} : R a → H a = some (.dK []) → RdD R H (.ref a) (.dict [])
 | d1 {a : Addr} {k : Str} {i : Int} : R a → H a = some (.dK [(.inr k, .int i)]) → RdD R H (.ref a) (.dict [(.str k, .int i)])
inductive RdB (R : Addr → Prop) (H : Hp) : List V → List PyData → Prop where
 | nil : RdB R H [] []
 | cons {x : V} {xs : List V} {d : PyData} {ds : List PyData} : RdD R H x d → RdB R H xs ds → RdB R H (x :: xs) (d :: ds)
end
mutual
theorem RdD.mono {R R' : Addr → Prop} {H H' : Hp} (hR : ∀ a, R a → R' a) (hH : ∀ a o, R a → H a = some o → H' a = some o) : ∀ {x : V} {d : PyData}, RdD R H x d → RdD R' H' x d
 | _, _, .non => .non
 | _, _, .bl b => .bl b
 | _, _, .int i => .int i
 | _, _, .str x => .str x
 | _, _, .lst r e z => .lst (hR _ r) (hH _ _ r e) (RdB.mono hR hH z)
 | _, _, .tup r e z => .tup (hR _ r) (hH _ _ r e) (RdB.mono hR hH z)
 | _, _, .d0 r e => .d0 (hR _ r) (hH _ _ r e)
 | _, _, .d1 r e => .d1 (hR _ r) (hH _ _ r e)
theorem RdB.mono {R R' : Addr → Prop} {H H' : Hp} (hR : ∀ a, R a → R' a) (hH : ∀ a o, R a → H a = some o → H' a = some o) : ∀ {xs : List V} {ds : List PyData}, RdB R H xs ds → RdB R' H' xs ds
 | _, _, .nil => .nil
 | _, _, .cons a b => .cons (RdD.mono hR hH a) (RdB.mono hR hH b)
end
mutual
theorem RdV.toD {R : Addr → Prop} {H : Hp} : ∀ {x : V} {d : PyData}, RdV R H x d → RdD R H x d
 | _, _, .non => .non
 | _, _, .bl b => .bl b
 | _, _, .int i => .int i
 | _, _, .str x => .str x
 | _, _, .lst r e z => .lst r e (RdA.toB z)
 | _, _, .tup r e z => .tup r e (RdA.toB z)
theorem RdA.toB {R : Addr → Prop} {H : Hp} : ∀ {xs : List V} {ds : List PyData}, RdA R H xs ds → RdB R H xs ds
 | _, _, .nil => .nil
 | _, _, .cons a b => .cons (RdV.toD a) (RdA.toB b)
end
theorem dict_of {P : Program} {w : World} {H : Hp} {h : Heap} {a : Addr} {kvs : List (Key × V)} (ok : HOk P w H h) (e : H a = some (.dK kvs)) : ∃ o es ep vs, h.get? a = some o ∧ o.cls = .type "dict" ∧ o.data = .dict es ep ∧ KV kvs vs ∧ Pairs (mixKind P w) es.toList vs := by
 obtain ⟨_, _, vs, kv, o, es, ep, h1, h2, h3, h4, h5, h6⟩ := dk_of ok e
 exact ⟨o, es, ep, vs, h1, h2.1, h3, kv, h5⟩
mutual
theorem RdD.reads {R : Addr → Prop} {P : Program} {w : World} {H : Hp} {h : Heap} (ok : HOk P w H h) : ∀ {x : V} {d : PyData}, RdD R H x d → ∀ {u : Value}, RelV x u → ∃ as, Reads h u d as ∧ ∀ a ∈ as, H a ≠ none
 | _, _, .non, u, r => by cases r; exact ⟨_, .none, fun _ z => nomatch z⟩
 | _, _, .bl b, u, r => by cases r; exact ⟨_, .bool b, fun _ z => nomatch z⟩
 | _, _, .int i, u, r => by obtain ⟨t, rfl⟩ := r; exact ⟨_, .int i t, fun _ z => nomatch z⟩
 | _, _, .str x, u, r => by obtain ⟨t, rfl⟩ := r; exact ⟨_, .str x t, fun _ z => nomatch z⟩
 | _, _, .lst (a := a) _ e z, u, r => by
  cases r
  obtain ⟨_, its, n, rv, e1⟩ := ok a _ e
  obtain ⟨as, q, ha⟩ := RdB.reads ok z rv
  refine ⟨_, .list e1 rfl rfl (by simpa using q), fun b hb => ?_⟩
  rcases List.mem_cons.mp hb with rfl | hb
  ·rw [e]; exact fun z => nomatch z
  ·exact ha b hb
 | _, _, .tup (a := a) _ e z, u, r => by
  cases r
  obtain ⟨_, its, rv, o, e1, e2, n, e3⟩ := ok a _ e
  obtain ⟨as, q, ha⟩ := RdB.reads ok z rv
  exact ⟨_, .tuple e1 e2 e3 (by simpa using q), ha⟩
 | _, _, .d0 (a := a) _ e, u, r => by
  cases r
  obtain ⟨o, es, ep, vs, h1, h2, h3, kv, pr⟩ := dict_of ok e
  cases kv
  have he : es.toList = [] := by cases hq : es.toList with | nil => rfl | cons _ _ => rw [hq] at pr; cases pr
  refine ⟨_, .dict (as := []) (bs := []) h1 h2 h3 (by rw [he]; exact .nil) (by rw [he]; exact .nil), fun b hb => ?_⟩
  obtain rfl : b = a := by simpa using hb
  rw [e]; exact fun z => nomatch z
 | _, _, .d1 (a := a) (k := k) (i := i) _ e, u, r => by
  cases r
  obtain ⟨o, es, ep, vs, h1, h2, h3, kv, pr⟩ := dict_of ok e
  cases kv with | cons hk tl =>
  cases tl
  rename_i q
  obtain ⟨k1, k2⟩ := hk
  obtain ⟨t2, k2⟩ := k2
  cases hq : es.toList with
  | nil => rw [hq] at pr; cases pr
  | cons ent rest =>
   rw [hq] at pr
   cases pr with | cons p1 p2 p3 =>
   cases p3
   have p1 : keyIs q.1 ent.key = true := p1
   rw [← k1] at p1
   rcases keyIs_shape p1 with ⟨_, _, z, _⟩ | ⟨x', t', z, e'⟩
   ·cases z
   ·cases z
    refine ⟨_, .dict (as := [] ++ []) (bs := [] ++ []) h1 h2 h3 (by rw [hq]; exact .cons (by show Reads h ent.key _ _; rw [e']; exact .str _ _) .nil) (by rw [hq]; exact .cons (by show Reads h ent.val _ _; rw [p2, k2]; exact .int _ _) .nil), fun b hb => ?_⟩
    obtain rfl : b = a := by simpa using hb
    rw [e]; exact fun z => nomatch z
theorem RdB.reads {R : Addr → Prop} {P : Program} {w : World} {H : Hp} {h : Heap} (ok : HOk P w H h) : ∀ {xs : List V} {ds : List PyData}, RdB R H xs ds → ∀ {us : List Value}, Vals xs us → ∃ as, ReadsAll h us ds as ∧ ∀ a ∈ as, H a ≠ none
 | _, _, .nil, _, .nil => ⟨_, .nil, fun _ z => nomatch z⟩
 | _, _, .cons a b, _, .cons r t => by
  obtain ⟨as, q1, h1⟩ := RdD.reads ok a r
  obtain ⟨bs, q2, h2⟩ := RdB.reads ok b t
  exact ⟨_, .cons q1 q2, fun a ha => (List.mem_append.mp ha).elim (h1 a) (h2 a)⟩
end
section
variable {X : Cx}
theorem Inv.noSys {pins : List (Addr × Obj)} {σ : St} {H : Hp} {s : Shared} (I : Inv X pins σ H s) : H sysModules = none := by
 obtain ⟨mm, o, es, ep, e, _⟩ := I.mod.sys
 exact (I.bs _ o e).2
theorem call_reprX {k : Nat} (hr : Room k X.A) : CallR X (.builtin "repr") (fun xs H Q => ∃ (R : Addr → Prop) (p : Addr) (d : PyData), xs = [.ref p] ∧ RdD R H (.ref p) d ∧ d.showable = true ∧ d.depth ≤ 60 ∧ d.shown.length ≤ sizeLine ∧ Q (.str d.shown) H) := by
 intro pins s σ H xs us Q I r h
 obtain ⟨R, p, d, rfl, hd, h1, h3, h4, q⟩ := h
 obtain ⟨u, rfl, rx⟩ := vals1 r
 cases rx
 obtain ⟨as, rd, ha⟩ := hd.reads I.hok (u := .ref p) rfl
 have hu := hr.units
 exact repr_of_reads' (h₀ := s.heap) rd h1 (fun _ z => ha _ z I.noSys) hr.gd (by omega) (fun _ _ e => e) (fun h' u tk kk => ⟨.str d.shown, H, I.kept kk, ⟨u, rfl⟩, q⟩) h4
end
end L2

set_option Elab.async false
set_option linter.all false
set_option maxRecDepth 100000
set_option maxHeartbeats 1000000
namespace HT
open PySem PySem.Spec PyProof.Rows L2
section
variable {prog : Program} {w : World} {A : Around} {E : Value → Shared → Prop} {s : Shared}
theorem getItem_tuple_all {t sl : Addr} {items : Array Value} {vl vu : Value} {lo hi : Option Int} {Q : Value → Shared → Prop} (ht : IsTup s.heap t items) (hs : s.heap.IsSliceOf sl vl vu .none) (pl : IsPart vl lo) (pu : IsPart vu hi)
  (hw : sIx items.size 0 lo = 0 ∧ sIx items.size items.size hi = items.size) (h : Q (.ref t) s) : wpAny (model prog w) A (getItem (.ref t) (.ref sl)) Q E s := by
 obtain ⟨os, hos, hcs, hds⟩ := id hs
 have hTs : s.TypeIs (.ref sl) "slice" := ⟨os, hos, hcs⟩
 unfold getItem
 try with_reducible refine wpAny_holding ?_
 first | refine wpAny_bind (wpAny_pure ?_) | skip
 refine wpAny_bind (wpAny_sequenceKey ht.typeIs (by decide) ?_)
 refine wpAny_bind (wpAny_callSpecial?_slot (name := Str.ofString "__getitem__") ht.typeIs PyProof.Rows.slot_tuple_getitem
  (wpAny_call_entry PyProof.Rows.slot_tuple_getitem ht.typeIs entry_tuple_getitem ?_ (args_tuple_getitem _ _)))
 show wpAny _ _ (Builtin.Tuple.tupleItemsOf (.ref t) >>= _) _ _ s
 refine wpAny_bind (tupleItemsOf_ ht ?_)
 refine wpAny_bind (wpAny_typeOf hTs ?_)
 rw [if_pos (by decide)]
 refine wpAny_bind (sliceApplied_gen hs pl pu ?_)
 have hyes : ((((sIx items.size 0 lo : Nat) : Int) == 0 && (1 : Int) == 1 && (sIx items.size items.size hi - sIx items.size 0 lo) == items.size) = true) := by
  rw [hw.1, hw.2]; simp
 show wpAny _ _ (if (((sIx items.size 0 lo : Nat) : Int) == 0 && (1 : Int) == 1 && (sIx items.size items.size hi - sIx items.size 0 lo) == items.size) = true then _ else _) _ _ s
 rw [if_pos hyes]
 refine wpAny_bind ?_
 unfold Builtin.Tuple.tupleIsExact
 refine wpAny_bind (wpAny_typeOf ht.typeIs (wpAny_pure ?_))
 rw [if_pos (by decide)]
 refine wpAny_bind (wpAny_rule ?_)
 exact wpAny_pure ⟨_, rfl, wpAny_pure h⟩
end
end HT
namespace L2
open PySem PySem.Spec PyProof.Rows
section
variable {X : Cx}
theorem op_eqL0 (hu : X.A.units < cLine) : OpR X (compareOp .Eq) (fun x y H Q => ∃ (a b : Addr) (xs : List V), x = .ref a ∧ y = .ref b ∧ SqL X.K H a xs ∧ SqL X.K H b [] ∧ Q (.bl xs.isEmpty) H) := by
 intro pins s σ H x y v u Q I rx ry h
 obtain ⟨a, b, xs, rfl, rfl, ha, hb, q⟩ := h
 cases rx
 cases ry
 obtain ⟨its, r1, p1, _⟩ := I.list ha
 obtain ⟨jts, r2, p2, _⟩ := I.list hb
 cases r2
 cases r1 with
 | nil => exact PySem.SeqAt.eq_listAt (e := fun _ => true) p1.isList p2.isList rfl hu (fun j h1 _ => absurd h1 (by simp)) ⟨.bl true, H, I.tok _, rfl, q⟩
 | cons r t => exact PySem.SeqAt.eq_list_lengthsAt p1.isList p2.isList (by simp) hu ⟨.bl false, H, I.tok _, rfl, q⟩
theorem op_eqLS (hu : X.A.units < cLine) : OpR X (compareOp .Eq) (fun x y H Q => ∃ (a b : Addr) (xs ys : List Str), x = .ref a ∧ y = .ref b ∧ SqL X.K H a (xs.map V.str) ∧ SqL X.K H b (ys.map V.str) ∧ Q (.bl (decide (xs = ys))) H) := by
 intro pins s σ H x y v u Q I rx ry h
 obtain ⟨a, b, xs, ys, rfl, rfl, ha, hb, q⟩ := h
 cases rx
 cases ry
 obtain ⟨its, r1, p1, _⟩ := I.list ha
 obtain ⟨jts, r2, p2, _⟩ := I.list hb
 have l1 : its.length = xs.length := by rw [← r1.length, List.length_map]
 have l2 : jts.length = ys.length := by rw [← r2.length, List.length_map]
 by_cases hl : xs.length = ys.length
 ·refine PySem.SeqAt.eq_listAt (e := fun j => decide (xs[j]? = ys[j]?)) p1.isList p2.isList (by simp [l1, l2, hl]) hu (fun j h1 h2 => ?_) ?_
  ·have h1' : j < its.length := by simpa using h1
   have h2' : j < jts.length := by simpa using h2
   obtain ⟨u1, e1, ru1⟩ := r1.get (i := j) (x := V.str (xs[j]'(by omega))) (by simp [show j < xs.length by omega])
   obtain ⟨u2, e2, ru2⟩ := r2.get (i := j) (x := V.str (ys[j]'(by omega))) (by simp [show j < ys.length by omega])
   obtain ⟨t1, rfl⟩ := ru1
   obtain ⟨t2, rfl⟩ := ru2
   have g1 : its.toArray[j] = Value.str (xs[j]'(by omega)) t1 := by
    have := (List.getElem?_eq_some_iff.mp e1).2
    simpa using this
   have g2 : jts.toArray[j] = Value.str (ys[j]'(by omega)) t2 := by
    have := (List.getElem?_eq_some_iff.mp e2).2
    simpa using this
   rw [g1, g2]
   have e : decide (xs[j]? = ys[j]?) = (xs[j]'(by omega) == ys[j]'(by omega)) := by
    rw [List.getElem?_eq_getElem (by omega), List.getElem?_eq_getElem (by omega)]
    by_cases hq : xs[j]'(by omega) = ys[j]'(by omega)
    ·simp [hq]
    ·simp [hq]
   rw [e]
   exact (PyProof.Rows.eqGives_str _ _ t1 t2).at _ _
  ·refine ⟨.bl (decide (xs = ys)), H, I.tok _, ?_, q⟩
   show Value.bool _ = Value.bool _
   congr 1
   by_cases e : xs = ys
   ·subst e; simp
   ·rw [decide_eq_false e]
    rw [Bool.eq_false_iff]
    intro z
    apply e
    rw [List.all_eq_true] at z
    refine List.ext_getElem? fun j => ?_
    by_cases hj : j < xs.length
    ·exact of_decide_eq_true (z j (List.mem_range.mpr (by simp [l1]; exact hj)))
    ·rw [List.getElem?_eq_none (by omega), List.getElem?_eq_none (by omega)]
 ·exact PySem.SeqAt.eq_list_lengthsAt p1.isList p2.isList (by simp [l1, l2, hl]) hu ⟨.bl false, H, I.tok _, rfl, by rw [decide_eq_false (fun e => hl (by rw [e]))] at q; exact q⟩
def rSlA (K : PySem.W.Frag) : V → Option Int → Option Int → Hp → VK → Prop := fun x lo hi H Q => ∃ a xs, x = .ref a ∧ SqT K H a xs ∧ (HT.sIx xs.length 0 lo = 0 ∧ HT.sIx xs.length xs.length hi = xs.length) ∧ Q (.ref a) H
theorem sl_all : SlR X (rSlA X.K) := by
 intro pins s σ H x v vl vu lo hi sl Q I rx hs pl pu h
 obtain ⟨a, xs, rfl, hx, hw, q⟩ := h
 cases rx
 obtain ⟨its, r, ht, hz⟩ := I.tuple hx
 have hlen : its.toArray.size = xs.length := by rw [List.size_toArray]; exact r.length.symm
 exact ⟨"tuple", _, PyProof.Rows.slot_tuple_getitem.lookup, ht.typeIs, HT.getItem_tuple_all ht hs pl pu (by rw [hlen]; exact hw) ⟨.ref a, H, I.tok _, rfl, q⟩⟩
def rSlS (K : PySem.W.Frag) : V → Option Int → Option Int → Hp → VK → Prop := fun x lo hi H Q => rSlL K x lo hi H Q ∨ (rSlT K x lo hi H Q ∨ rSlA K x lo hi H Q)
theorem sl_seq : SlR X (rSlS X.K) := sl_list.or (sl_tup.or sl_all)
end
end L2

set_option Elab.async false
set_option linter.all false
set_option maxRecDepth 100000
set_option maxHeartbeats 4000000
namespace Few
open PySem L2
def top (i : Nat) : Stmt := PySem.Challenge.pw_fewthings_k12_whole_books_judged.main.body.getD i (.Pass ⟨0, 0, 0, 0⟩)
structure Bl (mg : Str → Option Value) : Prop where
 n_len : mg "len" = none
 n_max : mg "max" = none
 n_abs : mg "abs" = none
 n_divmod : mg "divmod" = none
 n_list : mg "list" = none
 n_tuple : mg "tuple" = none
 n_range : mg "range" = none
 n_int : mg "int" = none
 n_str : mg "str" = none
 n_repr : mg "repr" = none
 n_isinstance : mg "isinstance" = none
 n_all : mg "all" = none
 n_set : mg "set" = none
theorem erase_map {α β : Type} (f : α → β) : ∀ (l : List α) (i : Nat), (l.map f).eraseIdx i = (l.eraseIdx i).map f
 | [], _ => rfl
 | _ :: _, 0 => rfl
 | x :: r, i + 1 => by
  show f x :: (r.map f).eraseIdx i = f x :: (r.eraseIdx i).map f
  rw [erase_map f r i]
theorem perm_erase {α : Type} : ∀ (l : List α) (i : Nat) (h : i < l.length), (l[i] :: l.eraseIdx i).Perm l
 | x :: r, 0, _ => List.Perm.refl _
 | x :: r, i + 1, h => by
  show (r[i]'(by simpa using h) :: x :: r.eraseIdx i).Perm (x :: r)
  exact (List.Perm.swap _ _ _).trans (List.Perm.cons x (perm_erase r i (by simpa using h)))
theorem zba : ((Str.ofString "_law_cell_here" : Str) == ("__debug__" : Str)) = false := by decide +kernel
theorem zbb : ((Str.ofString "_law_cell_here" : Str) == ("__classdict__" : Str)) = false := by decide +kernel
theorem zbc : ((Str.ofString "_law_digit" : Str) == ("__debug__" : Str)) = false := by decide +kernel
theorem zbd : ((Str.ofString "_law_digit" : Str) == ("__classdict__" : Str)) = false := by decide +kernel
theorem zbe : ((Str.ofString "_law_draw" : Str) == ("__debug__" : Str)) = false := by decide +kernel
theorem zbf : ((Str.ofString "_law_k" : Str) == ("__debug__" : Str)) = false := by decide +kernel
theorem zbg : ((Str.ofString "_law_k" : Str) == ("__classdict__" : Str)) = false := by decide +kernel
theorem zbh : ((Str.ofString "_law_left" : Str) == ("__debug__" : Str)) = false := by decide +kernel
theorem zbi : ((Str.ofString "_law_left" : Str) == ("__classdict__" : Str)) = false := by decide +kernel
theorem zbj : ((Str.ofString "_law_many" : Str) == ("__debug__" : Str)) = false := by decide +kernel
theorem zbk : ((Str.ofString "_law_many" : Str) == ("__classdict__" : Str)) = false := by decide +kernel
theorem zbl : ((Str.ofString "_law_menu" : Str) == ("__debug__" : Str)) = false := by decide +kernel
theorem zbm : ((Str.ofString "_law_menu" : Str) == ("__classdict__" : Str)) = false := by decide +kernel
theorem zbn : ((Str.ofString "_law_pot_here" : Str) == ("__debug__" : Str)) = false := by decide +kernel
theorem zbo : ((Str.ofString "_law_pot_here" : Str) == ("__classdict__" : Str)) = false := by decide +kernel
theorem zbp : ((Str.ofString "_law_script" : Str) == ("__debug__" : Str)) = false := by decide +kernel
theorem zbq : ((Str.ofString "_law_script" : Str) == ("__classdict__" : Str)) = false := by decide +kernel
theorem zbr : ((Str.ofString "abs" : Str) == ("__debug__" : Str)) = false := by decide +kernel
theorem zbs : (Str.ofString "abs" : Str) ≠ "__name__" := by decide +kernel
theorem zbt : ((Str.ofString "divmod" : Str) == ("__debug__" : Str)) = false := by decide +kernel
theorem zbu : (Str.ofString "divmod" : Str) ≠ "__name__" := by decide +kernel
theorem zbv : ((Str.ofString "len" : Str) == ("__debug__" : Str)) = false := by decide +kernel
theorem zbw : (Str.ofString "len" : Str) ≠ "__name__" := by decide +kernel
theorem zbx : ((Str.ofString "list" : Str) == ("__debug__" : Str)) = false := by decide +kernel
theorem zby : (Str.ofString "list" : Str) ≠ "__name__" := by decide +kernel
theorem zbz : ((Str.ofString "max" : Str) == ("__debug__" : Str)) = false := by decide +kernel
theorem zb0 : (Str.ofString "max" : Str) ≠ "__name__" := by decide +kernel
section
variable {P : Program} {w : World} {K : PySem.W.Frag} {mg : Str → Option Value} {base : Heap}
def spCell : Sp := fun vs H Q _ => ∃ (a : Addr) (ns : List Int) (k : Nat), vs = [.ref a, .int k] ∧ SqL K H a (ns.map V.int) ∧ ∀ n, Q (.int n) H
abbrev s_law_cell : Stmt := top 30
theorem zb1 : FnScope ["_law_script", "_law_k"] ["_law_script", "_law_k"] (defScope s_law_cell) := ⟨rfl, rfl, rfl, by decide +kernel, rfl, by decide +kernel, by decide +kernel⟩
theorem zb2 : (defScope s_law_cell).names.lookup (Str.ofString "_law_k") = some NameKind.local := by decide +kernel
theorem zb3 : (defScope s_law_cell).names.lookup (Str.ofString "_law_script") = some NameKind.local := by decide +kernel
theorem zb4 : (defScope s_law_cell).names.lookup (Str.ofString "len") = some NameKind.globalImplicit := by decide +kernel
theorem ok_cell (F : FunAt K mg "_law_cell" s_law_cell ["_law_script", "_law_k"]) (Z : Bl mg) : Def P w K mg base "_law_cell" 1 ["_law_script", "_law_k"] (spCell (K := K)) := by
 have SC := zb1
 refine F.mk' (k := 0) zb1 (fun vs H Q E h => ?_) (fun f cdv A outer s H vs Q E hr h => ?_)
 ·obtain ⟨a, ns, k, rfl, _⟩ := h
  rfl
 ·obtain ⟨a, ns, k, rfl, hS, q⟩ := h
  refine' ⟨_, ?derivation, ?_⟩
  case derivation =>
   refine' pss_cons ?ka ?kb
   case ka =>
    refine' ps_if ?kc ?kd pss_nil
    case kc =>
     refine' pt_cmpR ?ke ?kf ?kg ?kh
     case ke => exact op_lt
     case kf => exact (pq 1 (visL zb2) zbf zbg)
     case kg =>
      refine' pe_callB (hn := zbw) (hdb := zbv) ?ki ?kj ?kk ?kl ?km ?kn ?ko
      case ki => exact call_len_seq
      case kj => exact zb4
      case kk => exact Z.n_len
      case kl => exact bt_len
      case km =>
       refine' pa_cons ?kp pa_nil ?kq
       case kp => exact (pq 0 (visL zb3) zbp zbq)
       case kq => rfl
      case kn => rfl
      case ko => rfl
     case kh => exact (nomark _)
    case kd =>
     refine' pss_one ?kr
     case kr =>
      refine' ps_ret ?ks
      case ks =>
       refine' pe_ix ?kt ?ku ?kv ?kw
       case kt => exact ix_list
       case ku => exact (pq 0 (visL zb3) zbp zbq)
       case kv => exact (pq 1 (visL zb2) zbf zbg)
       case kw =>
        intro _ _
        exact rfl
   case kb =>
    refine' pss_one ?kx
    case kx =>
     refine' ps_ret ?ky
     case ky => exact pe_int
  refine ⟨_, rfl, _, rfl, a, _, rfl, .inl hS, _, _, rfl, rfl, _, rfl, ?_⟩
  refine ite2 (fun hc => ?_) (fun hc => q 0)
  have hc : (k : Int) < ((ns.map V.int).length : Int) := of_decide_eq_true hc
  rw [List.length_map] at hc
  have hk : k < ns.length := by omega
  refine ⟨_, rfl, _, rfl, a, _, _, _, rfl, rfl, hS, atI_nat (v := V.int ns[k]) (by simp [hk]), q _⟩
def PotAt (H : Hp) (p : Addr) : Prop := ∃ a b c : Int, H p = some (.lst [.int a, .int b, .int c]) ∧ 0 ≤ a ∧ 0 ≤ b ∧ b < 4294967296
def spPot : Sp := fun vs H Q _ => ∃ n : Int, vs = [.int n] ∧ ∀ p H', H p = none → PotAt H' p → Same H H' → Q (.ref p) H'
abbrev s_law_pot : Stmt := top 31
theorem zb5 : FnScope ["_law_cell_here"] ["_law_cell_here"] (defScope s_law_pot) := ⟨rfl, rfl, rfl, by decide +kernel, rfl, by decide +kernel, by decide +kernel⟩
theorem zb6 : (defScope s_law_pot).names.lookup (Str.ofString "_law_cell_here") = some NameKind.local := by decide +kernel
theorem zb7 : (defScope s_law_pot).names.lookup (Str.ofString "abs") = some NameKind.globalImplicit := by decide +kernel
theorem zb8 : (defScope s_law_pot).names.lookup (Str.ofString "max") = some NameKind.globalImplicit := by decide +kernel
theorem ok_pot (F : FunAt K mg "_law_pot" s_law_pot ["_law_cell_here"]) (Z : Bl mg) : Def P w K mg base "_law_pot" 1 ["_law_cell_here"] spPot := by
 have SC := zb5
 refine F.mk' (k := 0) zb5 (fun vs H Q E h => ?_) (fun f cdv A outer s H vs Q E hr h => ?_)
 ·obtain ⟨n, rfl, _⟩ := h
  rfl
 ·obtain ⟨n, rfl, q⟩ := h
  refine' ⟨_, ?derivation, ?_⟩
  case derivation =>
   refine' pss_one ?ka
   case ka =>
    refine' ps_ret ?kb
    case kb =>
     refine' pe_lst ?kc
     case kc =>
      refine' pa_cons ?kd ?ke ?kf
      case kd =>
       refine' pe_callB (hn := zb0) (hdb := zbz) ?kg ?kh ?ki ?kj ?kk ?kl ?km
       case kg => exact (call_max2 rfl)
       case kh => exact zb8
       case ki => exact Z.n_max
       case kj => exact bt_max
       case kk =>
        refine' pa_cons ?kn ?ko ?kp
        case kn => exact pe_int
        case ko =>
         refine' pa_cons ?kq pa_nil ?kr
         case kq =>
          refine' pe_op ?ks ?kt ?ku
          case ks => exact op_sub
          case kt =>
           refine' pe_callB (hn := zbs) (hdb := zbr) ?kv ?kw ?kx ?ky ?kz ?kba ?kbb
           case kv => exact call_abs
           case kw => exact zb7
           case kx => exact Z.n_abs
           case ky => exact bt_abs
           case kz =>
            refine' pa_cons ?kbc pa_nil ?kbd
            case kbc => exact (pq 0 (visL zb6) zba zbb)
            case kbd => rfl
           case kba => rfl
           case kbb => rfl
          case ku =>
           refine' pe_op ?kbe ?kbf ?kbg
           case kbe => exact op_pow
           case kbf => exact pe_int
           case kbg => exact pe_int
         case kr => rfl
        case kp => rfl
       case kl => rfl
       case km => rfl
      case ke =>
       refine' pa_cons ?kbh ?kbi ?kbj
       case kbh =>
        refine' pe_op ?kbk ?kbl ?kbm
        case kbk => exact op_add
        case kbl =>
         refine' pe_op ?kbn ?kbo ?kbp
         case kbn => exact op_mod
         case kbo =>
          refine' pe_callB (hn := zbs) (hdb := zbr) ?kbq ?kbr ?kbs ?kbt ?kbu ?kbv ?kbw
          case kbq => exact call_abs
          case kbr => exact zb7
          case kbs => exact Z.n_abs
          case kbt => exact bt_abs
          case kbu =>
           refine' pa_cons ?kbx pa_nil ?kby
           case kbx => exact (pq 0 (visL zb6) zba zbb)
           case kby => rfl
          case kbv => rfl
          case kbw => rfl
         case kbp => exact pe_int
        case kbm => exact pe_int
       case kbi =>
        refine' pa_cons ?kbz pa_nil ?kca
        case kbz => exact pe_int
        case kca => rfl
       case kbj => rfl
      case kf => rfl
  refine ⟨_, rfl, _, rfl, _, _, rfl, rfl, ⟨by decide, by decide, by decide⟩, _, _, rfl, rfl, _, _, rfl, ?_⟩
  refine ⟨_, rfl, _, rfl, _, _, rfl, rfl, (by show (0 : Int) < 2147483629; decide), _, _, rfl, rfl, (by show 3 ≤ sizeLine; decide), fun p hp => ?_⟩
  refine q p _ hp ⟨_, _, _, upd_same, ?_, ?_, ?_⟩ (same_new hp _)
  ·split <;> omega
  ·have := Int.emod_nonneg (if n < 0 then -n else n) (b := 2147483629) (by decide)
   omega
  ·have := Int.emod_lt_of_pos (if n < 0 then -n else n) (b := 2147483629) (by decide)
   omega
def spDraw : Sp := fun vs H Q _ => ∃ (p : Addr) (m : Int), vs = [.ref p, .int m] ∧ PotAt H p ∧ 0 < m ∧ m < 1000 ∧ ∀ (r : Int) H', 0 ≤ r → r < m → PotAt H' p → SameX p H H' → Q (.int r) H'
abbrev s_law_draw : Stmt := top 32
theorem zb9 : FnScope ["_law_pot_here", "_law_many", "_law_digit"] ["_law_pot_here", "_law_many"] (defScope s_law_draw) := ⟨rfl, rfl, rfl, by decide +kernel, rfl, by decide +kernel, by decide +kernel⟩
theorem zca : (defScope s_law_draw).names.lookup (Str.ofString "_law_digit") = some NameKind.local := by decide +kernel
theorem zcb : (defScope s_law_draw).names.lookup (Str.ofString "_law_many") = some NameKind.local := by decide +kernel
theorem zcc : (defScope s_law_draw).names.lookup (Str.ofString "_law_pot_here") = some NameKind.local := by decide +kernel
theorem zcd : (defScope s_law_draw).names.lookup (Str.ofString "divmod") = some NameKind.globalImplicit := by decide +kernel
theorem ok_draw (F : FunAt K mg "_law_draw" s_law_draw ["_law_pot_here", "_law_many"]) (Z : Bl mg) : Def P w K mg base "_law_draw" 1 ["_law_pot_here", "_law_many"] spDraw := by
 have SC := zb9
 refine F.mk' (k := 0) zb9 (fun vs H Q E h => ?_) (fun f cdv A outer s H vs Q E hr h => ?_)
 ·obtain ⟨p, m, rfl, _⟩ := h
  rfl
 ·obtain ⟨p, m, rfl, ⟨a, b, c, hp, ha, hb, hb2⟩, hm, hm2, q⟩ := h
  refine' ⟨_, ?derivation, ?_⟩
  case derivation =>
   refine' pss_cons ?ka ?kb
   case ka =>
    refine' ps_if ?kc ?kd pss_nil
    case kc =>
     refine' pt_cmpR ?ke ?kf ?kg ?kh
     case ke => exact op_gt
     case kf =>
      refine' pe_ix ?ki ?kj ?kk ?kl
      case ki => exact ix_list
      case kj => exact (pq 0 (visL zcc) zbn zbo)
      case kk => exact pe_int
      case kl =>
       intro _ _
       exact rfl
     case kg => exact pe_int
     case kh => exact (nomark _)
    case kd =>
     refine' pss_cons ?km ?kn
     case km =>
      refine' ps_asg ?ko ?kp ?kq ?kr ?ks
      case ko =>
       refine' pe_callB (hn := zbu) (hdb := zbt) ?kt ?ku ?kv ?kw ?kx ?ky ?kz
       case kt => exact call_divmod
       case ku => exact zcd
       case kv => exact Z.n_divmod
       case kw => exact bt_divmod
       case kx =>
        refine' pa_cons ?kba ?kbb ?kbc
        case kba =>
         refine' pe_ix ?kbd ?kbe ?kbf ?kbg
         case kbd => exact ix_list
         case kbe => exact (pq 0 (visL zcc) zbn zbo)
         case kbf => exact pe_int
         case kbg =>
          intro _ _
          exact rfl
        case kbb =>
         refine' pa_cons ?kbh pa_nil ?kbi
         case kbh => exact (pq 1 (visL zcb) zbj zbk)
         case kbi => rfl
        case kbc => rfl
       case ky => rfl
       case kz => rfl
      case kp =>
       refine' pg_tup ?kbj ?kbk ?kbl ?kbm
       case kbj => exact rfl
       case kbk =>
        refine' pgs_cons ?kbn ?kbo ?kbp
        case kbn =>
         refine' pg_sub ?kbq ?kbr ?kbs ?kbt
         case kbq => exact (pq 0 (visL zcc) zbn zbo)
         case kbr => exact pe_int
         case kbs => exact set_list
         case kbt => intro _; rfl
        case kbo =>
         refine' pgs_cons ?kbu pgs_nil ?kbv
         case kbu =>
          refine' pg_name (i := 2) (x := Str.ofString "_law_digit") ?kbw ?kbx ?kby ?kbz
          case kbw => exact SC.nd
          case kbx => exact rfl
          case kby => exact (Or.inl zca)
          case kbz => exact (.inl rfl)
         case kbv => rfl
        case kbp => rfl
       case kbl => rfl
       case kbm => rfl
      case kq => rfl
      case kr => rfl
      case ks => rfl
     case kn =>
      refine' pss_one ?kca
      case kca =>
       refine' ps_ret ?kcb
       case kcb => exact (pq 2 (visL zca) zbc zbd)
   case kb =>
    refine' pss_cons ?kcc ?kcd
    case kcc =>
     refine' ps_asg ?kce ?kcf ?kcg ?kch ?kci
     case kce =>
      refine' pe_op ?kcj ?kck ?kcl
      case kcj => exact op_mod
      case kck =>
       refine' pe_op ?kcm ?kcn ?kco
       case kcm => exact op_add
       case kcn =>
        refine' pe_op ?kcp ?kcq ?kcr
        case kcp => exact op_mul
        case kcq =>
         refine' pe_ix ?kcs ?kct ?kcu ?kcv
         case kcs => exact ix_list
         case kct => exact (pq 0 (visL zcc) zbn zbo)
         case kcu => exact pe_int
         case kcv =>
          intro _ _
          exact rfl
        case kcr => exact pe_int
       case kco => exact pe_int
      case kcl => exact pe_int
     case kcf =>
      refine' pg_sub ?kcw ?kcx ?kcy ?kcz
      case kcw => exact (pq 0 (visL zcc) zbn zbo)
      case kcx => exact pe_int
      case kcy => exact set_list
      case kcz => intro _; rfl
     case kcg => rfl
     case kch => rfl
     case kci => rfl
    case kcd =>
     refine' pss_one ?kda
     case kda =>
      refine' ps_ret ?kdb
      case kdb =>
       refine' pe_op ?kdc ?kdd ?kde
       case kdc => exact op_mod
       case kdd =>
        refine' pe_op ?kdf ?kdg ?kdh
        case kdf => exact op_fdiv
        case kdg =>
         refine' pe_op ?kdi ?kdj ?kdk
         case kdi => exact op_mod
         case kdj =>
          refine' pe_op ?kdl ?kdm ?kdn
          case kdl => exact op_mul
          case kdm =>
           refine' pe_ix ?kdo ?kdp ?kdq ?kdr
           case kdo => exact ix_list
           case kdp => exact (pq 0 (visL zcc) zbn zbo)
           case kdq => exact pe_int
           case kdr =>
            intro _ _
            exact rfl
          case kdn =>
           refine' pe_ix ?kds ?kdt ?kdu ?kdv
           case kds => exact ix_list
           case kdt => exact (pq 0 (visL zcc) zbn zbo)
           case kdu => exact pe_int
           case kdv =>
            intro _ _
            exact rfl
         case kdk => exact pe_int
        case kdh => exact pe_int
       case kde => exact (pq 1 (visL zcb) zbj zbk)
  refine ⟨_, rfl, p, _, _, _, rfl, rfl, SqL.of hp, rfl, _, _, rfl, rfl, _, rfl, ?_⟩
  refine ite2 (fun hc => ?_) (fun hc => ?_)
  ·refine ⟨_, rfl, p, _, _, _, rfl, rfl, SqL.of hp, rfl, _, rfl, _, _, rfl, ⟨hm, by omega⟩, fun t ht => ?_⟩
   have npt : p ≠ t := ne_of_none hp ht
   refine ⟨t, _, rfl, SqT.of upd_same, rfl, _, _, rfl, _, rfl, p, _, _, _, rfl, rfl, (by rw [upd_ne npt]; exact hp), rfl, _, _, rfl, ⟨rfl, _, rfl, ?_⟩⟩
   refine q _ _ (Int.emod_nonneg _ (by omega)) (Int.emod_lt_of_pos _ hm) ⟨_, _, _, upd_same, Int.ediv_nonneg ha (by omega), hb, hb2⟩ (fun b o n e => ?_)
   rw [upd_ne n, upd_ne (ne_of_none e ht)]; exact e
  ·refine ⟨_, rfl, p, _, _, _, rfl, rfl, SqL.of hp, rfl, _, _, rfl, rfl, .inr ⟨by decide, by decide⟩, _, _, rfl, rfl, _, _, rfl, rfl, (by show (0 : Int) < 2147483647; decide), ?_⟩
   have g0 : 0 ≤ (b * 48271 + 11) % 2147483647 := Int.emod_nonneg _ (by decide)
   have g1 : (b * 48271 + 11) % 2147483647 < 2147483647 := Int.emod_lt_of_pos _ (by decide)
   refine ⟨_, rfl, p, _, _, _, rfl, rfl, hp, rfl, ?_⟩
   refine ⟨_, rfl, p, _, _, _, rfl, rfl, SqL.of upd_same, rfl, _, rfl, p, _, _, _, rfl, rfl, SqL.of upd_same, rfl, _, _, rfl, rfl, .inl ⟨by omega, by omega⟩, _, _, rfl, rfl, (by show (0 : Int) < 2147483629; decide), _, _, rfl, rfl, ⟨by decide, by decide⟩, _, rfl, _, _, rfl, rfl, hm, ?_⟩
   refine q _ _ (Int.emod_nonneg _ (by omega)) (Int.emod_lt_of_pos _ hm) ⟨_, _, _, upd_same, ha, g0, by omega⟩ (fun b o n e => ?_)
   rw [upd_ne n]; exact e
structure Went (p : Addr) (H H' : Hp) : Prop where
 pot : PotAt H' p
 same : SameX p H H'
theorem PotAt.keep {H H' : Hp} {p : Addr} (h : PotAt H p) (s : Same H H') : PotAt H' p := let ⟨a, b, c, e, r⟩ := h; ⟨a, b, c, s _ _ e, r⟩
theorem PotAt.some {H : Hp} {p : Addr} (h : PotAt H p) : ∃ o, H p = some o := let ⟨_, _, _, e, _⟩ := h; ⟨_, e⟩
def spUnlike : Sp := fun vs H Q _ => ∃ (p a : Addr) (m : Nat) (xs : List Str), vs = [.ref p, .int m, .ref a] ∧ PotAt H p ∧ SqL K H a (xs.map V.str) ∧ m ≤ xs.length ∧ xs.length < 100 ∧ xs.Nodup ∧
 ∀ l (ys : List Str) H', H l = none → H' l = some (.lst (ys.map V.str)) → ys.length = m → ys.Nodup → (∀ y ∈ ys, y ∈ xs) → Went p H H' → Q (.ref l) H'
abbrev s_law_unlike : Stmt := top 33
theorem zce : FnScope ["_law_pot_here", "_law_many", "_law_menu", "_law_left"] ["_law_pot_here", "_law_many", "_law_menu"] (defScope s_law_unlike) := ⟨rfl, rfl, rfl, by decide +kernel, rfl, by decide +kernel, by decide +kernel⟩
theorem zcf : (defScope s_law_unlike).names.lookup (Str.ofString "_law_left") = some NameKind.cell := by decide +kernel
theorem zcg : (defScope s_law_unlike).names.lookup (Str.ofString "_law_many") = some NameKind.local := by decide +kernel
theorem zch : (defScope s_law_unlike).names.lookup (Str.ofString "_law_menu") = some NameKind.local := by decide +kernel
theorem zci : (defScope s_law_unlike).names.lookup (Str.ofString "list") = some NameKind.globalImplicit := by decide +kernel
theorem zcj : (defScope s_law_unlike).names.lookup (Str.ofString "range") = some NameKind.globalImplicit := by decide +kernel
theorem zck : CompSc 1 ["_law_k", "_law_pot_here", "_law_many", "_law_menu", "_law_left"] ["_law_pot_here", "_law_many", "_law_menu", "_law_left"] (defScope s_law_unlike) { kind := PySem.ScopeKind.function, names := [ (PySem.Str.ofString ".0", PySem.NameKind.local), (PySem.Str.ofString "_law_k", PySem.NameKind.local), (PySem.Str.ofString "_law_draw", PySem.NameKind.globalImplicit), (PySem.Str.ofString "len", PySem.NameKind.globalImplicit), (PySem.Str.ofString "_law_left", PySem.NameKind.free), (PySem.Str.ofString "_law_pot_here", PySem.NameKind.free)], isGenerator := false, isCoroutine := false, more := [] : PySem.Scope } := ⟨rfl, by decide +kernel, by decide +kernel, by decide +kernel, by decide +kernel, rfl, by decide +kernel⟩
theorem zcl : ({ kind := PySem.ScopeKind.function, names := [ (PySem.Str.ofString ".0", PySem.NameKind.local), (PySem.Str.ofString "_law_k", PySem.NameKind.local), (PySem.Str.ofString "_law_draw", PySem.NameKind.globalImplicit), (PySem.Str.ofString "len", PySem.NameKind.globalImplicit), (PySem.Str.ofString "_law_left", PySem.NameKind.free), (PySem.Str.ofString "_law_pot_here", PySem.NameKind.free)], isGenerator := false, isCoroutine := false, more := [] : PySem.Scope } : Scope).names.lookup (Str.ofString "_law_draw") = some NameKind.globalImplicit := by decide +kernel
theorem zcm : ({ kind := PySem.ScopeKind.function, names := [ (PySem.Str.ofString ".0", PySem.NameKind.local), (PySem.Str.ofString "_law_k", PySem.NameKind.local), (PySem.Str.ofString "_law_draw", PySem.NameKind.globalImplicit), (PySem.Str.ofString "len", PySem.NameKind.globalImplicit), (PySem.Str.ofString "_law_left", PySem.NameKind.free), (PySem.Str.ofString "_law_pot_here", PySem.NameKind.free)], isGenerator := false, isCoroutine := false, more := [] : PySem.Scope } : Scope).names.lookup (Str.ofString "_law_k") = some NameKind.local := by decide +kernel
theorem zcn : ({ kind := PySem.ScopeKind.function, names := [ (PySem.Str.ofString ".0", PySem.NameKind.local), (PySem.Str.ofString "_law_k", PySem.NameKind.local), (PySem.Str.ofString "_law_draw", PySem.NameKind.globalImplicit), (PySem.Str.ofString "len", PySem.NameKind.globalImplicit), (PySem.Str.ofString "_law_left", PySem.NameKind.free), (PySem.Str.ofString "_law_pot_here", PySem.NameKind.free)], isGenerator := false, isCoroutine := false, more := [] : PySem.Scope } : Scope).names.lookup (Str.ofString "_law_left") = some NameKind.free := by decide +kernel
theorem zco : ({ kind := PySem.ScopeKind.function, names := [ (PySem.Str.ofString ".0", PySem.NameKind.local), (PySem.Str.ofString "_law_k", PySem.NameKind.local), (PySem.Str.ofString "_law_draw", PySem.NameKind.globalImplicit), (PySem.Str.ofString "len", PySem.NameKind.globalImplicit), (PySem.Str.ofString "_law_left", PySem.NameKind.free), (PySem.Str.ofString "_law_pot_here", PySem.NameKind.free)], isGenerator := false, isCoroutine := false, more := [] : PySem.Scope } : Scope).names.lookup (Str.ofString "_law_pot_here") = some NameKind.free := by decide +kernel
theorem zcp : ({ kind := PySem.ScopeKind.function, names := [ (PySem.Str.ofString ".0", PySem.NameKind.local), (PySem.Str.ofString "_law_k", PySem.NameKind.local), (PySem.Str.ofString "_law_draw", PySem.NameKind.globalImplicit), (PySem.Str.ofString "len", PySem.NameKind.globalImplicit), (PySem.Str.ofString "_law_left", PySem.NameKind.free), (PySem.Str.ofString "_law_pot_here", PySem.NameKind.free)], isGenerator := false, isCoroutine := false, more := [] : PySem.Scope } : Scope).names.lookup (Str.ofString "len") = some NameKind.globalImplicit := by decide +kernel
theorem ok_unlike (F : FunAt K mg "_law_unlike" s_law_unlike ["_law_pot_here", "_law_many", "_law_menu"]) (Z : Bl mg) (D_law_draw : Def P w K mg base "_law_draw" 1 ["_law_pot_here", "_law_many"] spDraw) : Def P w K mg base "_law_unlike" 2 ["_law_pot_here", "_law_many", "_law_menu"] (spUnlike (K := K)) := by
 have SC := zce
 refine F.mk' (k := 1) zce (fun vs H Q E h => ?_) (fun f cdv A outer s H vs Q E hr h => ?_)
 ·obtain ⟨p, a, m, xs, rfl, _⟩ := h
  rfl
 ·obtain ⟨p, a, m, xs, rfl, hp, ha, hm, hx, hn, q⟩ := h
  refine' ⟨_, ?derivation, ?_⟩
  case derivation =>
   refine' pss_cons ?ka ?kb
   case ka =>
    refine' ps_set (i := 3) (x := Str.ofString "_law_left") ?kc ?kd ?ke ?kf ?kg ?kh
    case kc => exact SC.nd
    case kd => exact rfl
    case ke => exact (Or.inr zcf)
    case kf =>
     refine' pe_callTy (hn := zby) (hdb := zbx) ?ki ?kj ?kk ?kl ?km ?kn ?ko
     case ki => exact call_list_of
     case kj => exact zci
     case kk => exact Z.n_list
     case kl => exact bt_list
     case km =>
      refine' pa_cons ?kp pa_nil ?kq
      case kp => exact (pq 2 (visL zch) zbl zbm)
      case kq => rfl
     case kn => rfl
     case ko => rfl
    case kg => rfl
    case kh => exact .inl rfl
   case kb =>
    refine' pss_one ?kr
    case kr =>
     refine' ps_ret ?ks
     case ks =>
      refine' pe_comp ?kt ?ku ?kv ?kw ?kx ?ky ?kz
      case kt => exact noxe
      case ku => exact rfl
      case kv => exact zck.at
      case kw =>
       refine' pi_range1 ?kba ?kbb ?kbc ?kbd
       case kba => exact zcj
       case kbb => exact Z.n_range
       case kbc =>
        refine' pa_cons ?kbe pa_nil ?kbf
        case kbe => exact (pq 1 (visL zcg) zbj zbk)
        case kbf => rfl
       case kbd => rfl
      case kx =>
       intro _ _ _ _ _
       refine' pg_name (i := 0) ?kbg ?kbh ?kbi ?kbj
       case kbg => exact zck.nd
       case kbh => exact rfl
       case kbi => exact (locO zcm)
       case kbj => exact (.inr (lookup_relabel_local zcm))
      case ky =>
       intro _ _ _ _ _
       refine' pe_bm ?kbk ?kbl ?kbm ?kbn ?kbo ?kbp ?kbq ?kbr ?kbs ?kbt ?kbu
       case kbk => exact PySem.F.plainAttrs_list
       case kbl => exact PySem.F.slot_list_pop
       case kbm => exact PySem.F.type_list_pop
       case kbn => exact mt_popAt
       case kbo => exact (pq 4 (visF zcn) zbh zbi)
       case kbp =>
        refine' pa_cons ?kbv pa_nil ?kbw
        case kbv =>
         refine' pe_def (hdb := zbe) ?kbx ?kby ?kbz ?kca ?kcb ?kcc
         case kbx => exact D_law_draw
         case kby => exact (hr.mono (by decide))
         case kbz => exact (glO zcl)
         case kca =>
          refine' pa_cons ?kcd ?kce ?kcf
          case kcd => exact (pq 1 (visF zco) zbn zbo)
          case kce =>
           refine' pa_cons ?kcg pa_nil ?kch
           case kcg =>
            refine' pe_callB (hn := zbw) (hdb := zbv) ?kci ?kcj ?kck ?kcl ?kcm ?kcn ?kco
            case kci => exact call_len_seq
            case kcj => exact (glO zcp)
            case kck => exact Z.n_len
            case kcl => exact bt_len
            case kcm =>
             refine' pa_cons ?kcp pa_nil ?kcq
             case kcp => exact (pq 4 (visF zcn) zbh zbi)
             case kcq => rfl
            case kcn => rfl
            case kco => rfl
           case kch => rfl
          case kcf => rfl
         case kcb => rfl
         case kcc => rfl
        case kbw => rfl
       case kbq => rfl
       case kbr => rfl
       case kbs => rfl
       case kbt => rfl
       case kbu => rfl
      case kz => intro _; rfl
  refine ⟨_, rfl, a, _, rfl, .inl ha, fun L hL => ?_⟩
  refine ⟨_, rfl, m, rfl, by omega, by omega, ?_⟩
  intro cl C ex s0 H0
  have hpL : p ≠ L := by obtain ⟨o, e⟩ := hp.some; exact ne_of_none e hL
  refine comp_it1 m (fun i ys H1 => ∃ zs ws : List Str, H1 L = some (.lst (zs.map V.str)) ∧ zs.length + i = xs.length ∧ ys = ws.map V.str ∧ (ws ++ zs).Nodup ∧ (∀ y ∈ ws ++ zs, y ∈ xs) ∧ Went p H H1) (fun _ _ => True)
   ⟨xs, [], upd_same, rfl, rfl, hn, fun y hy => hy, hp.keep (same_new hL _), (same_new hL _).x⟩ (Nat.le_trans (Nat.le_trans hm (by omega)) (show 100 ≤ sizeLine by decide)) (fun i ys H1 hi _ _ => ⟨hi, fun x H' y => ⟨y.1, trivial⟩⟩) (fun _ _ _ _ => Nat.le_refl _) ?_ ?_
  ·rintro i x ys H1 hi _ hy ⟨zs, ws, hzL, hzl, rfl, hnd, hsub, W⟩
   refine ⟨_, rfl, .inl ⟨rfl, _, SqL.of hzL⟩, _, rfl, _, rfl, L, _, rfl, .inl (SqL.of hzL), p, _, rfl, W.pot, ?_, ?_, fun r H2 h0 h1 hp2 s2 => ?_⟩
   ·rw [List.length_map]; omega
   ·rw [List.length_map]; omega
   ·rw [List.length_map] at h1
    have hr' : r.toNat < zs.length := by omega
    have hzL2 : H2 L = some (.lst (zs.map V.str)) := s2 L _ (Ne.symm hpL) hzL
    refine ⟨L, _, r, r.toNat, V.str zs[r.toNat], rfl, rfl, hzL2, by omega, by omega, seqIx h0 (by rw [List.length_map]; omega), by simp [hr'], ?_⟩
    refine ⟨zs.eraseIdx r.toNat, ws ++ [zs[r.toNat]], ?_, ?_, by simp, ?_, ?_, ?_, ?_⟩
    ·rw [upd_same, erase_map]
    ·rw [List.length_eraseIdx_of_lt hr']; omega
    ·have pm : (zs[r.toNat] :: zs.eraseIdx r.toNat).Perm zs := perm_erase zs _ hr'
     have pm2 : (ws ++ [zs[r.toNat]] ++ zs.eraseIdx r.toNat).Perm (ws ++ zs) := by
      rw [List.append_assoc]
      exact List.Perm.append_left ws pm
     exact (List.Perm.nodup_iff pm2).mpr hnd
    ·intro y hy
     refine hsub y ?_
     have pm : (zs[r.toNat] :: zs.eraseIdx r.toNat).Perm zs := perm_erase zs _ hr'
     have pm2 : (ws ++ [zs[r.toNat]] ++ zs.eraseIdx r.toNat).Perm (ws ++ zs) := by
      rw [List.append_assoc]
      exact List.Perm.append_left ws pm
     exact (List.Perm.mem_iff pm2).mp hy
    ·obtain ⟨a', b', c', e, r'⟩ := hp2
     exact ⟨a', b', c', by rw [upd_ne hpL]; exact e, r'⟩
    ·intro b o n e
     rw [upd_ne (ne_of_none e hL)]
     exact s2 b o n (W.same b o n e)
  ·rintro ys H1 hy ⟨zs, ws, hzL, hzl, rfl, hnd, hsub, W⟩ D hD
   have hpD : p ≠ D := by obtain ⟨o, e⟩ := W.pot.some; exact ne_of_none e hD
   refine q D ws _ (W.same.free (Ne.symm hpD) hD) upd_same (by simpa using hy) (List.nodup_append.mp hnd).1 (fun y hy => hsub y (List.mem_append_left _ hy)) ⟨W.pot.keep (same_new hD _), W.same.same (same_new hD _)⟩
end
end Few

set_option Elab.async false
set_option linter.all false
set_option maxRecDepth 100000
set_option maxHeartbeats 1000000
namespace Few
open PySem L2
def isNm (z : Str) : Prop := 1 ≤ z.cps.toList.length ∧ z.cps.toList.length ≤ 12 ∧ ∀ c ∈ z.cps.toList, 97 ≤ c ∧ c ≤ 122
def sayWords : List Str := ["all", "some", "not", "and", "or"]
def isSg (z : Str) : Prop := isNm z ∧ ¬ z ∈ sayWords
theorem str_len (z : Str) : z.length = z.cps.toList.length := by show z.cps.size = _; simp
def abc : Str := Str.ofString "abcdefghijklmnopqrstuvwxyz"
theorem inV_strs (z : Str) : ∀ ws : List Str, inV (V.str z) (ws.map V.str) = decide (z ∈ ws)
 | [] => rfl
 | x :: r => by
  have ih := inV_strs z r
  have e : inV (V.str z) ((x :: r).map V.str) = (eqV (V.str x) (V.str z) || inV (V.str z) (r.map V.str)) := rfl
  rw [e, ih]
  have e2 : eqV (V.str x) (V.str z) = decide (x = z) := by
   first
    | rfl
    | (unfold eqV; rw [Bool.beq_eq_decide_eq])
    | (unfold eqV; simp)
  rw [e2]
  by_cases h : x = z
  ·subst h; simp
  ·have h' : ¬ z = x := fun e => h e.symm
   simp [h, h']
section
variable {P : Program} {w : World} {K : PySem.W.Frag} {mg : Str → Option Value} {base : Heap}
theorem Went.trans {p : Addr} {H H1 H2 : Hp} (a : Went p H H1) (b : Went p H1 H2) : Went p H H2 := ⟨b.pot, a.same.trans b.same⟩
theorem Went.mk1 {p : Addr} {H H1 H2 : Hp} (a : Went p H H1) (pt : PotAt H2 p) (s : SameX p H1 H2) : Went p H H2 := ⟨pt, a.same.trans s⟩
theorem Went.new {p : Addr} {H H1 : Hp} {l : Addr} (a : Went p H H1) (h : H1 l = none) (o : HO) : Went p H (upd H1 l o) := ⟨a.pot.keep (same_new h o), a.same.same (same_new h o)⟩
theorem Went.put {p : Addr} {H H1 : Hp} {l : Addr} (a : Went p H H1) (n : p ≠ l) (h : H l = none) (o : HO) : Went p H (upd H1 l o) :=
 ⟨let ⟨x, y, z, e, r⟩ := a.pot; ⟨x, y, z, by rw [upd_ne n]; exact e, r⟩, fun b u nb e => by rw [upd_ne (ne_of_none e h)]; exact a.same b u nb e⟩
theorem Went.ne {p l : Addr} {H H1 : Hp} (a : Went p H H1) (h : H1 l = none) : p ≠ l := by obtain ⟨o, e⟩ := a.pot.some; exact ne_of_none e h
theorem Went.free {p l : Addr} {H H1 : Hp} (a : Went p H H1) (h : H1 l = none) : H l = none := a.same.free (Ne.symm (a.ne h)) h
theorem Went.refl {p : Addr} {H : Hp} (h : PotAt H p) : Went p H H := ⟨h, SameX.refl _ _⟩
theorem Went.at {p l : Addr} {H H1 : Hp} {o : HO} (a : Went p H H1) (n : l ≠ p) (h : H l = some o) : H1 l = some o := a.same l o n h
end
def LT (H : Hp) (a : Addr) (xs : List V) : Prop := H a = some (.lst xs) ∨ H a = some (.tup xs)
theorem LT.mono {H H' : Hp} {a : Addr} {xs : List V} (h : LT H a xs) (k : ∀ o, H a = some o → H' a = some o) : LT H' a xs := h.elim (fun e => .inl (k _ e)) fun e => .inr (k _ e)
end Few
namespace L2
open PySem PySem.Spec PyProof.Rows
section
variable {X : Cx} {tg : Expr}
theorem PI.or {l : Expr} {wi wi' : TI} (h : PI X tg l wi) (h' : PI X tg l wi') : PI X tg l (fun σ H R => wi σ H R ∨ wi' σ H R) := by
 intro pins s σ H R I q
 rcases q with q | q
 ·exact h pins s σ H R I q
 ·exact h' pins s σ H R I q
def iSeq (K : PySem.W.Frag) (tl : TE) : TI := fun σ H R => iList K tl σ H R ∨ iTup K tl σ H R
theorem pi_seq {l : Expr} {tl : TE} (hl : PE X l tl) : PI X tg l (iSeq X.K tl) := (pi_list hl).or (pi_tup hl)
theorem kit_list2 (K : PySem.W.Frag) : PySem.W.kitAny K (.type "list") [.type "list", .type "tuple"] = some true := rfl
theorem kit_tuple2 (K : PySem.W.Frag) : PySem.W.kitAny K (.type "tuple") [.type "list", .type "tuple"] = some true := rfl
theorem seq_mid {t u : TS} {D : Ends} {σ : St} {H : Hp} (Mid : St → Hp → Prop) (hu : ∀ σ' H', Mid σ' H' → u D σ' H') (h : (∀ σ' H', Mid σ' H' → u D σ' H') → t { D with nx := u D } σ H) : tSeq t u D σ H := h hu
end
end L2
namespace Few
open PySem L2
theorem LT.len {H : Hp} {a : Addr} {xs ys : List V} (h : LT H a xs) (h' : LT H a ys) : xs = ys := by
 rcases h with h | h <;> rcases h' with h' | h' <;> (rw [h] at h'; first | (cases h'; rfl) | cases h')
theorem LT.sq {K : PySem.W.Frag} {H : Hp} {a : Addr} {xs : List V} (h : LT H a xs) : SqL K H a xs ∨ SqT K H a xs := h.elim (fun e => .inl (SqL.of e)) fun e => .inr (SqT.of e)
theorem LT.ix {K : PySem.W.Frag} {H : Hp} {p : Addr} {xs : List V} {i : Int} {v : V} {Q : VK} (h : LT H p xs) (e : atI xs i = Option.some v) (q : Q v H) : rIx K (.ref p) (.int i) H Q := by
 rcases h with h | h
 ·exact .inl ⟨p, xs, i, v, rfl, rfl, SqL.of h, e, q⟩
 ·exact .inr (.inl ⟨p, xs, i, v, rfl, rfl, SqT.of h, e, q⟩)
theorem LT.isi2 {K : PySem.W.Frag} {H : Hp} {p : Addr} {xs : List V} (h : LT H p xs) : ∃ (t : Value), TyOf K H (.ref p) t ∧ PySem.W.kitAny K t [.type "list", .type "tuple"] = Option.some true := by
 rcases h with h | h
 ·exact ⟨_, .lst h, kit_list2 K⟩
 ·exact ⟨_, .tup h, kit_tuple2 K⟩
structure Over (H : Hp) (a : Addr) (xs : List V) (J : It) : Prop where
 go : ∀ i H', (∀ o, H a = Option.some o → H' a = Option.some o) → i < xs.length → J.go i H' ∧ ∀ x H'', J.yld i H' x H'' → H'' = H' ∧ xs[i]? = Option.some x
 stop : ∀ H', (∀ o, H a = Option.some o → H' a = Option.some o) → J.stop xs.length H'
theorem LT.over {K : PySem.W.Frag} {H : Hp} {a : Addr} {xs : List V} {i : Nat} {σ : St} {R : It → Hp → Prop} (h : LT H a xs) (hv : σ[i]? = Option.some (Option.some (.ref a))) (k : ∀ J, Over H a xs J → R J H) : iSeq K (tVar i) σ H R := by
 rcases h with h | h
 ·exact .inl ⟨_, hv, a, rfl, ⟨_, SqL.of h⟩, k _ ⟨fun i H' kp hi => go_list (SqL.of (kp _ h)) hi, fun H' kp => stop_list (SqL.of (kp _ h))⟩⟩
 ·exact .inr ⟨_, hv, a, rfl, ⟨_, SqT.of h⟩, k _ ⟨fun i H' kp hi => go_tup (SqT.of (kp _ h)) hi, fun H' kp => stop_tup (SqT.of (kp _ h))⟩⟩
theorem Over.loop {J : It} {H0 : Hp} {a : Addr} {xs : List V} {g : TG} {tb : TS} {D : Ends} {σ : St} {H : Hp} (O : Over H0 a xs J) (Pv : Nat → St → Hp → Prop) (h0 : Pv 0 σ H) (hl : ∀ i σ H, i ≤ xs.length → Pv i σ H → ∀ o, H0 a = Option.some o → H a = Option.some o)
  (hs : ∀ i x σ H, xs[i]? = Option.some x → Pv i σ H → g x σ H fun σ2 H2 => tb { D with nx := Pv (i + 1), ct := Pv (i + 1), bk := D.nx } σ2 H2) (hd : ∀ σ H, Pv xs.length σ H → D.nx σ H) :
  ∃ W : Nat → Nat → St → Hp → Prop, (∃ m, W 0 m σ H) ∧ ∀ i m σ H, W i m σ H →
   (J.stop i H ∧ D.nx σ H) ∨ (J.go i H ∧ ∃ N : St → Hp → Prop, (∀ σ' H', N σ' H' → ∃ m', m' < m ∧ W (i + 1) m' σ' H') ∧ ∀ x H', J.yld i H x H' → g x σ H' fun σ2 H2 => tb { D with nx := N, ct := N, bk := D.nx } σ2 H2) := by
 refine ⟨fun i m σ H => m = xs.length - i ∧ i ≤ xs.length ∧ Pv i σ H, ⟨xs.length, by simp, Nat.zero_le _, h0⟩, ?_⟩
 rintro i m σ H ⟨rfl, hi, p⟩
 have q := hl i σ H hi p
 by_cases hlt : i < xs.length
 ·obtain ⟨g1, g2⟩ := O.go i H q hlt
  refine .inr ⟨g1, Pv (i + 1), fun σ' H' p' => ⟨xs.length - (i + 1), by omega, rfl, hlt, p'⟩, fun x H' y => ?_⟩
  obtain ⟨e, y'⟩ := g2 x H' y
  subst e
  exact hs i x σ _ y' p
 ·have e : i = xs.length := by omega
  subst e
  exact .inl ⟨O.stop H q, hd σ H p⟩
theorem Over.comp {J : It} {H0 : Hp} {a : Addr} {xs : List V} {te : TE} {σ : St} {H : Hp} {Q : VK} (O : Over H0 a xs J) (Pv : Nat → List V → Hp → Prop) (h0 : Pv 0 [] H) (hz : xs.length ≤ sizeLine) (hl : ∀ i ys H, i ≤ xs.length → Pv i ys H → ∀ o, H0 a = Option.some o → H a = Option.some o)
  (hs : ∀ i x ys H, xs[i]? = Option.some x → ys.length = i → Pv i ys H → te (Option.some x :: σ) H fun v H3 => Pv (i + 1) (ys ++ [v]) H3)
  (hd : ∀ ys H, ys.length = xs.length → Pv xs.length ys H → ∀ D, H D = none → Q (.ref D) (upd H D (.lst ys))) : CompOk 1 J (gName 0) te σ H Q :=
 comp_it1 xs.length Pv (fun i x => xs[i]? = Option.some x) h0 hz (fun i ys H hi hy p => O.go i H (hl i ys H (Nat.le_of_lt hi) p) hi) (fun ys H hy p => O.stop H (hl _ ys H (Nat.le_refl _) p)) (fun i x ys H hi hx hy p => hs i x ys H hx hy p) hd
end Few
namespace Few
open PySem L2
theorem ifT {c A B : Prop} [Decidable c] (hc : c) (h : A) : if c then A else B := by rw [if_pos hc]; exact h
theorem ifF {c A B : Prop} [Decidable c] (hc : ¬ c) (h : B) : if c then A else B := by rw [if_neg hc]; exact h
theorem LT.same {H H' : Hp} {a : Addr} {xs : List V} (h : LT H a xs) (s : Same H H') : LT H' a xs := h.mono fun o e => s a o e
structure Gs (K : PySem.W.Frag) (mg : Str → Option Value) : Prop where
 letters : ∃ u, mg "LETTERS" = some u ∧ RelV (.str abc) u
 longest : ∃ u, mg "LONGEST_NAME" = some u ∧ RelV (.int 12) u
 mkinds : ∃ u, mg "MOST_KINDS" = some u ∧ RelV (.int 4) u
 msigns : ∃ u, mg "MOST_SIGNS" = some u ∧ RelV (.int 8) u
 mplaces : ∃ u, mg "MOST_PLACES" = some u ∧ RelV (.int 2) u
 words : ∃ a, mg "WORDS_OF_SAYINGS" = some (.ref a) ∧ ∀ H, SqT K H a (sayWords.map V.str)
theorem flat_strs : ∀ ws : List Str, (ws.map V.str).all flatV = true
 | [] => rfl
 | x :: r => by
  show (flatV (V.str x) && (r.map V.str).all flatV) = true
  rw [flat_strs r]; rfl
theorem n_tk : ¬ (("kept_ties" : Str) = "kept_kinds") := by decide +kernel
theorem n_ft : ¬ (("kept_functions" : Str) = "kept_ties") := by decide +kernel
def flK (kt : Addr) : List (Str × V) := putF "kept_kinds" (.ref kt) []
def flT (kt tt : Addr) : List (Str × V) := putF "kept_ties" (.ref tt) (flK kt)
def flF (kt tt ft : Addr) : List (Str × V) := putF "kept_functions" (.ref ft) (flT kt tt)
theorem flK_kinds (kt : Addr) : (flK kt).lookup ("kept_kinds" : Str) = some (.ref kt) := by unfold flK; rw [lookup_putF, if_pos rfl]
theorem flT_kinds (kt tt : Addr) : (flT kt tt).lookup ("kept_kinds" : Str) = some (.ref kt) := by unfold flT; rw [lookup_putF, if_neg (fun z => n_tk z.symm)]; exact flK_kinds kt
theorem flT_ties (kt tt : Addr) : (flT kt tt).lookup ("kept_ties" : Str) = some (.ref tt) := by unfold flT; rw [lookup_putF, if_pos rfl]
theorem flF_ties (kt tt ft : Addr) : (flF kt tt ft).lookup ("kept_ties" : Str) = some (.ref tt) := by unfold flF; rw [lookup_putF, if_neg (fun z => n_ft z.symm)]; exact flT_ties kt tt
theorem flF_funs (kt tt ft : Addr) : (flF kt tt ft).lookup ("kept_functions" : Str) = some (.ref ft) := by unfold flF; rw [lookup_putF, if_pos rfl]
theorem flK_len (kt : Addr) : (flK kt).length < 1000 := Nat.lt_of_le_of_lt (length_putF _ _ _) (by decide)
theorem flT_len (kt tt : Addr) : (flT kt tt).length < 1000 := by
 have h1 := length_putF ("kept_ties" : Str) (.ref tt) (flK kt)
 have h2 := length_putF ("kept_kinds" : Str) (.ref kt) []
 unfold flT flK at *
 simp only [List.length_nil] at h2
 omega
theorem cat_of {K : PySem.W.Frag} {H : Hp} {a b : Addr} {xs ys : List V} {Q : VK} (ha : H a = some (.tup xs)) (hb : H b = some (.tup ys)) (hl : xs.length + ys.length ≤ sizeLine) (q : ∀ p H', H' p = some (.tup (xs ++ ys)) → Same H H' → Q (.ref p) H') : rCatTT K (.ref a) (.ref b) H Q := by
 refine ⟨a, b, xs, ys, rfl, rfl, SqT.of ha, SqT.of hb, hl, fun e => ?_, fun _ e => ?_, fun _ _ p hp => q p _ upd_same (same_new hp _)⟩
 ·subst e; exact q b H hb (Same.refl _)
 ·subst e; exact q a H (by rw [List.append_nil]; exact ha) (Same.refl _)
structure ClS (K : PySem.W.Frag) (C : Addr) : Prop where
 cl : Cls K C
 nK : NoAttr K C "kept_kinds"
 nT : NoAttr K C "kept_ties"
 nF : NoAttr K C "kept_functions"
end Few

set_option Elab.async false
set_option linter.all false
set_option maxRecDepth 100000
set_option maxHeartbeats 1000000
namespace Few
open PySem L2
structure TieR where
 nm : Str
 ps : List Str
structure FunR where
 nm : Str
 ps : List Str
 kd : Str
def strsD (ws : List Str) : List PyData := ws.map PyData.str
def tieL (t : TieR) : PyData := .tuple [.str t.nm, .list (strsD t.ps)]
def funL (t : FunR) : PyData := .tuple [.str t.nm, .list (strsD t.ps), .str t.kd]
def bookL (ks : List Str) (ts : List TieR) (fs : List FunR) : PyData := .tuple [.list (strsD ks), .list (ts.map tieL), .list (fs.map funL)]
structure BookOk (ks : List Str) (ts : List TieR) (fs : List FunR) : Prop where
 kn : ks.Nodup
 k1 : 1 ≤ ks.length
 k4 : ks.length ≤ 4
 kn2 : ∀ k ∈ ks, isNm k
 sn : (ts.map (·.nm) ++ fs.map (·.nm)).Nodup
 sl : ts.length + fs.length ≤ 8
 tn : ∀ t ∈ ts, isSg t.nm ∧ t.ps.length ≤ 2 ∧ ∀ k ∈ t.ps, k ∈ ks
 fn : ∀ t ∈ fs, isSg t.nm ∧ t.ps.length ≤ 2 ∧ (∀ k ∈ t.ps, k ∈ ks) ∧ t.kd ∈ ks
def menuK : List Str := ["a", "b", "c", "all", "not", "x", "kind", "size", "r", "f", "abcdefghijkl"]
def menuS : List Str := ["r", "s", "q", "f", "g", "c", "x", "say", "holds", "none", "tie", "next", "zyxwvutsrqpo"]
theorem menuK_nm : ∀ k ∈ menuK, isNm k := by unfold isNm; decide +kernel
theorem menuS_sg : ∀ k ∈ menuS, isSg k := by unfold isSg isNm; decide +kernel
theorem menuK_nd : menuK.Nodup := by decide +kernel
theorem menuS_nd : menuS.Nodup := by decide +kernel
theorem zcq : ((Str.ofString "_law_functions" : Str) == ("__debug__" : Str)) = false := by decide +kernel
theorem zcr : ((Str.ofString "_law_functions" : Str) == ("__classdict__" : Str)) = false := by decide +kernel
theorem zcs : ((Str.ofString "_law_kinds" : Str) == ("__debug__" : Str)) = false := by decide +kernel
theorem zct : ((Str.ofString "_law_kinds" : Str) == ("__classdict__" : Str)) = false := by decide +kernel
theorem zcu : ((Str.ofString "_law_most_kinds" : Str) == ("__debug__" : Str)) = false := by decide +kernel
theorem zcv : ((Str.ofString "_law_most_kinds" : Str) == ("__classdict__" : Str)) = false := by decide +kernel
theorem zcw : ((Str.ofString "_law_most_signs" : Str) == ("__debug__" : Str)) = false := by decide +kernel
theorem zcx : ((Str.ofString "_law_most_signs" : Str) == ("__classdict__" : Str)) = false := by decide +kernel
theorem zcy : ((Str.ofString "_law_name_here" : Str) == ("__debug__" : Str)) = false := by decide +kernel
theorem zcz : ((Str.ofString "_law_name_here" : Str) == ("__classdict__" : Str)) = false := by decide +kernel
theorem zc0 : ((Str.ofString "_law_names" : Str) == ("__debug__" : Str)) = false := by decide +kernel
theorem zc1 : ((Str.ofString "_law_names" : Str) == ("__classdict__" : Str)) = false := by decide +kernel
theorem zc2 : ((Str.ofString "_law_places" : Str) == ("__debug__" : Str)) = false := by decide +kernel
theorem zc3 : ((Str.ofString "_law_places" : Str) == ("__classdict__" : Str)) = false := by decide +kernel
theorem zc4 : ((Str.ofString "_law_ties" : Str) == ("__debug__" : Str)) = false := by decide +kernel
theorem zc5 : ((Str.ofString "_law_ties" : Str) == ("__classdict__" : Str)) = false := by decide +kernel
theorem zc6 : ((Str.ofString "_law_unlike" : Str) == ("__debug__" : Str)) = false := by decide +kernel
section
variable {P : Program} {w : World} {K : PySem.W.Frag} {mg : Str → Option Value} {base : Heap}
abbrev s_law_book : Stmt := top 34
theorem zc7 : FnScope ["_law_pot_here", "_law_most_kinds", "_law_most_signs", "_law_menu", "_law_kinds", "_law_names", "_law_ties", "_law_functions", "_law_name_here", "_law_places"] ["_law_pot_here", "_law_most_kinds", "_law_most_signs"] (defScope s_law_book) := ⟨rfl, rfl, rfl, by decide +kernel, rfl, by decide +kernel, by decide +kernel⟩
theorem zc8 : (defScope s_law_book).names.lookup (Str.ofString "_law_draw") = some NameKind.globalImplicit := by decide +kernel
theorem zc9 : (defScope s_law_book).names.lookup (Str.ofString "_law_functions") = some NameKind.local := by decide +kernel
theorem zda : (defScope s_law_book).names.lookup (Str.ofString "_law_kinds") = some NameKind.cell := by decide +kernel
theorem zdb : (defScope s_law_book).names.lookup (Str.ofString "_law_menu") = some NameKind.local := by decide +kernel
theorem zdc : (defScope s_law_book).names.lookup (Str.ofString "_law_most_kinds") = some NameKind.local := by decide +kernel
theorem zdd : (defScope s_law_book).names.lookup (Str.ofString "_law_most_signs") = some NameKind.local := by decide +kernel
theorem zde : (defScope s_law_book).names.lookup (Str.ofString "_law_name_here") = some NameKind.local := by decide +kernel
theorem zdf : (defScope s_law_book).names.lookup (Str.ofString "_law_names") = some NameKind.local := by decide +kernel
theorem zdg : (defScope s_law_book).names.lookup (Str.ofString "_law_places") = some NameKind.local := by decide +kernel
theorem zdh : (defScope s_law_book).names.lookup (Str.ofString "_law_pot_here") = some NameKind.cell := by decide +kernel
theorem zdi : (defScope s_law_book).names.lookup (Str.ofString "_law_ties") = some NameKind.local := by decide +kernel
theorem zdj : (defScope s_law_book).names.lookup (Str.ofString "_law_unlike") = some NameKind.globalImplicit := by decide +kernel
theorem zdk : (defScope s_law_book).names.lookup (Str.ofString "len") = some NameKind.globalImplicit := by decide +kernel
theorem zdl : (defScope s_law_book).names.lookup (Str.ofString "range") = some NameKind.globalImplicit := by decide +kernel
theorem zdm : CompSc 1 ["_law_k", "_law_pot_here", "_law_most_kinds", "_law_most_signs", "_law_menu", "_law_kinds", "_law_names", "_law_ties", "_law_functions", "_law_name_here", "_law_places"] ["_law_pot_here", "_law_most_kinds", "_law_most_signs", "_law_menu", "_law_kinds", "_law_names", "_law_ties", "_law_functions", "_law_name_here", "_law_places"] (defScope s_law_book) { kind := PySem.ScopeKind.function, names := [ (PySem.Str.ofString ".0", PySem.NameKind.local), (PySem.Str.ofString "_law_k", PySem.NameKind.local), (PySem.Str.ofString "_law_draw", PySem.NameKind.globalImplicit), (PySem.Str.ofString "len", PySem.NameKind.globalImplicit), (PySem.Str.ofString "_law_kinds", PySem.NameKind.free), (PySem.Str.ofString "_law_pot_here", PySem.NameKind.free)], isGenerator := false, isCoroutine := false, more := [] : PySem.Scope } := ⟨rfl, by decide +kernel, by decide +kernel, by decide +kernel, by decide +kernel, rfl, by decide +kernel⟩
theorem zdn : ({ kind := PySem.ScopeKind.function, names := [ (PySem.Str.ofString ".0", PySem.NameKind.local), (PySem.Str.ofString "_law_k", PySem.NameKind.local), (PySem.Str.ofString "_law_draw", PySem.NameKind.globalImplicit), (PySem.Str.ofString "len", PySem.NameKind.globalImplicit), (PySem.Str.ofString "_law_kinds", PySem.NameKind.free), (PySem.Str.ofString "_law_pot_here", PySem.NameKind.free)], isGenerator := false, isCoroutine := false, more := [] : PySem.Scope } : Scope).names.lookup (Str.ofString "_law_draw") = some NameKind.globalImplicit := by decide +kernel
theorem zdo : ({ kind := PySem.ScopeKind.function, names := [ (PySem.Str.ofString ".0", PySem.NameKind.local), (PySem.Str.ofString "_law_k", PySem.NameKind.local), (PySem.Str.ofString "_law_draw", PySem.NameKind.globalImplicit), (PySem.Str.ofString "len", PySem.NameKind.globalImplicit), (PySem.Str.ofString "_law_kinds", PySem.NameKind.free), (PySem.Str.ofString "_law_pot_here", PySem.NameKind.free)], isGenerator := false, isCoroutine := false, more := [] : PySem.Scope } : Scope).names.lookup (Str.ofString "_law_k") = some NameKind.local := by decide +kernel
theorem zdp : ({ kind := PySem.ScopeKind.function, names := [ (PySem.Str.ofString ".0", PySem.NameKind.local), (PySem.Str.ofString "_law_k", PySem.NameKind.local), (PySem.Str.ofString "_law_draw", PySem.NameKind.globalImplicit), (PySem.Str.ofString "len", PySem.NameKind.globalImplicit), (PySem.Str.ofString "_law_kinds", PySem.NameKind.free), (PySem.Str.ofString "_law_pot_here", PySem.NameKind.free)], isGenerator := false, isCoroutine := false, more := [] : PySem.Scope } : Scope).names.lookup (Str.ofString "_law_kinds") = some NameKind.free := by decide +kernel
theorem zdq : ({ kind := PySem.ScopeKind.function, names := [ (PySem.Str.ofString ".0", PySem.NameKind.local), (PySem.Str.ofString "_law_k", PySem.NameKind.local), (PySem.Str.ofString "_law_draw", PySem.NameKind.globalImplicit), (PySem.Str.ofString "len", PySem.NameKind.globalImplicit), (PySem.Str.ofString "_law_kinds", PySem.NameKind.free), (PySem.Str.ofString "_law_pot_here", PySem.NameKind.free)], isGenerator := false, isCoroutine := false, more := [] : PySem.Scope } : Scope).names.lookup (Str.ofString "_law_pot_here") = some NameKind.free := by decide +kernel
theorem zdr : ({ kind := PySem.ScopeKind.function, names := [ (PySem.Str.ofString ".0", PySem.NameKind.local), (PySem.Str.ofString "_law_k", PySem.NameKind.local), (PySem.Str.ofString "_law_draw", PySem.NameKind.globalImplicit), (PySem.Str.ofString "len", PySem.NameKind.globalImplicit), (PySem.Str.ofString "_law_kinds", PySem.NameKind.free), (PySem.Str.ofString "_law_pot_here", PySem.NameKind.free)], isGenerator := false, isCoroutine := false, more := [] : PySem.Scope } : Scope).names.lookup (Str.ofString "len") = some NameKind.globalImplicit := by decide +kernel
def spBook : Sp := fun vs H Q _ => ∃ (p : Addr) (mk ms : Nat), vs = [.ref p, .int mk, .int ms] ∧ PotAt H p ∧ 1 ≤ mk ∧ mk ≤ 4 ∧ ms ≤ 8 ∧
 ∀ v H' ks ts fs, RdV (fun a => H a = none) H' v (bookL ks ts fs) → BookOk ks ts fs → ks.length ≤ mk → ts.length + fs.length ≤ ms → Went p H H' → Q v H'
theorem ok_book (F : FunAt K mg "_law_book" s_law_book ["_law_pot_here", "_law_most_kinds", "_law_most_signs"]) (Z : Bl mg) (D_law_draw : Def P w K mg base "_law_draw" 1 ["_law_pot_here", "_law_many"] spDraw)
  (D_law_unlike : Def P w K mg base "_law_unlike" 2 ["_law_pot_here", "_law_many", "_law_menu"] (spUnlike (K := K))) :
  Def P w K mg base "_law_book" 3 ["_law_pot_here", "_law_most_kinds", "_law_most_signs"] spBook := by
 have SC := zc7
 refine F.mk' (k := 2) zc7 (fun vs H Q E h => ?_) (fun f cdv A outer s H vs Q E hr h => ?_)
 ·obtain ⟨p, mk, ms, rfl, _⟩ := h
  rfl
 ·obtain ⟨p, mk, ms, rfl, hp, hm1, hm4, hms, q⟩ := h
  refine' ⟨_, ?derivation, ?_⟩
  case derivation =>
   refine' pss_cons ?ka ?kb
   case ka =>
    refine' ps_set (i := 3) (x := Str.ofString "_law_menu") ?kc ?kd ?ke ?kf ?kg ?kh
    case kc => exact SC.nd
    case kd => exact rfl
    case ke => exact (Or.inl zdb)
    case kf =>
     refine' pe_lst ?ki
     case ki =>
      refine' pa_strs ?kj
      case kj => exact (by repeat constructor)
    case kg => rfl
    case kh => exact .inl rfl
   case kb =>
    refine' pss_cons ?kk ?kl
    case kk =>
     refine' ps_set (i := 4) (x := Str.ofString "_law_kinds") ?km ?kn ?ko ?kp ?kq ?kr
     case km => exact SC.nd
     case kn => exact rfl
     case ko => exact (Or.inr zda)
     case kp =>
      refine' pe_def (hdb := zc6) ?ks ?kt ?ku ?kv ?kw ?kx
      case ks => exact D_law_unlike
      case kt => exact (hr.mono (by decide))
      case ku => exact zdj
      case kv =>
       refine' pa_cons ?ky ?kz ?kba
       case ky => exact (pq 0 (visC zdh) zbn zbo)
       case kz =>
        refine' pa_cons ?kbb ?kbc ?kbd
        case kbb =>
         refine' pe_op ?kbe ?kbf ?kbg
         case kbe => exact op_add
         case kbf => exact pe_int
         case kbg =>
          refine' pe_def (hdb := zbe) ?kbh ?kbi ?kbj ?kbk ?kbl ?kbm
          case kbh => exact D_law_draw
          case kbi => exact (hr.mono (by decide))
          case kbj => exact zc8
          case kbk =>
           refine' pa_cons ?kbn ?kbo ?kbp
           case kbn => exact (pq 0 (visC zdh) zbn zbo)
           case kbo =>
            refine' pa_cons ?kbq pa_nil ?kbr
            case kbq => exact (pq 1 (visL zdc) zcu zcv)
            case kbr => rfl
           case kbp => rfl
          case kbl => rfl
          case kbm => rfl
        case kbc =>
         refine' pa_cons ?kbs pa_nil ?kbt
         case kbs => exact (pq 3 (visL zdb) zbl zbm)
         case kbt => rfl
        case kbd => rfl
       case kba => rfl
      case kw => rfl
      case kx => rfl
     case kq => rfl
     case kr => exact .inl rfl
    case kl =>
     refine' pss_cons ?kbu ?kbv
     case kbu =>
      refine' ps_set (i := 3) (x := Str.ofString "_law_menu") ?kbw ?kbx ?kby ?kbz ?kca ?kcb
      case kbw => exact SC.nd
      case kbx => exact rfl
      case kby => exact (Or.inl zdb)
      case kbz =>
       refine' pe_lst ?kcc
       case kcc =>
        refine' pa_strs ?kcd
        case kcd => exact (by repeat constructor)
      case kca => rfl
      case kcb => exact .inl rfl
     case kbv =>
      refine' pss_cons ?kce ?kcf
      case kce =>
       refine' ps_set (i := 5) (x := Str.ofString "_law_names") ?kcg ?kch ?kci ?kcj ?kck ?kcl
       case kcg => exact SC.nd
       case kch => exact rfl
       case kci => exact (Or.inl zdf)
       case kcj =>
        refine' pe_def (hdb := zc6) ?kcm ?kcn ?kco ?kcp ?kcq ?kcr
        case kcm => exact D_law_unlike
        case kcn => exact (hr.mono (by decide))
        case kco => exact zdj
        case kcp =>
         refine' pa_cons ?kcs ?kct ?kcu
         case kcs => exact (pq 0 (visC zdh) zbn zbo)
         case kct =>
          refine' pa_cons ?kcv ?kcw ?kcx
          case kcv =>
           refine' pe_def (hdb := zbe) ?kcy ?kcz ?kda ?kdb ?kdc ?kdd
           case kcy => exact D_law_draw
           case kcz => exact (hr.mono (by decide))
           case kda => exact zc8
           case kdb =>
            refine' pa_cons ?kde ?kdf ?kdg
            case kde => exact (pq 0 (visC zdh) zbn zbo)
            case kdf =>
             refine' pa_cons ?kdh pa_nil ?kdi
             case kdh =>
              refine' pe_op ?kdj ?kdk ?kdl
              case kdj => exact op_add
              case kdk => exact (pq 2 (visL zdd) zcw zcx)
              case kdl => exact pe_int
             case kdi => rfl
            case kdg => rfl
           case kdc => rfl
           case kdd => rfl
          case kcw =>
           refine' pa_cons ?kdm pa_nil ?kdn
           case kdm => exact (pq 3 (visL zdb) zbl zbm)
           case kdn => rfl
          case kcx => rfl
         case kcu => rfl
        case kcq => rfl
        case kcr => rfl
       case kck => rfl
       case kcl => exact .inl rfl
      case kcf =>
       refine' pss_cons ?kdo ?kdp
       case kdo =>
        refine' ps_set (i := 6) (x := Str.ofString "_law_ties") ?kdq ?kdr ?kds ?kdt ?kdu ?kdv
        case kdq => exact SC.nd
        case kdr => exact rfl
        case kds => exact (Or.inl zdi)
        case kdt =>
         refine' pe_lst pa_nil
        case kdu => rfl
        case kdv => exact .inl rfl
       case kdp =>
        refine' pss_cons ?kdw ?kdx
        case kdw =>
         refine' ps_set (i := 7) (x := Str.ofString "_law_functions") ?kdy ?kdz ?kea ?keb ?kec ?ked
         case kdy => exact SC.nd
         case kdz => exact rfl
         case kea => exact (Or.inl zc9)
         case keb =>
          refine' pe_lst pa_nil
         case kec => rfl
         case ked => exact .inl rfl
        case kdx =>
         refine' pss_cons ?kee ?kef
         case kee =>
          refine' ps_for ?keg ?keh ?kei ?kej ?kek ?kel
          case keg => exact PassesOwn.never
          case keh => exact rfl
          case kei =>
           refine' pi_list ?kem
           case kem => exact (pq 5 (visL zdf) zc0 zc1)
          case kej =>
           refine' pg_name (i := 8) (x := Str.ofString "_law_name_here") ?ken ?keo ?kep ?keq
           case ken => exact SC.nd
           case keo => exact rfl
           case kep => exact (Or.inl zde)
           case keq => exact (.inl rfl)
          case kek =>
           refine' pss_cons ?ker ?kes
           case ker =>
            refine' ps_setComp (i := 9) (x := Str.ofString "_law_places") ?ket ?keu ?kev ?kew ?kex ?key ?kez ?kfa ?kfb ?kfc ?kfd ?kfe
            case ket => exact SC.nd
            case keu => exact rfl
            case kev => exact (Or.inl zdg)
            case kew => exact rfl
            case kex => exact noxe
            case key => exact rfl
            case kez => exact zdm.at
            case kfa =>
             refine' pi_range1 ?kff ?kfg ?kfh ?kfi
             case kff => exact zdl
             case kfg => exact Z.n_range
             case kfh =>
              refine' pa_cons ?kfj pa_nil ?kfk
              case kfj =>
               refine' pe_ix ?kfl ?kfm ?kfn ?kfo
               case kfl => exact ix_list
               case kfm =>
                refine' pe_lst ?kfp
                case kfp =>
                 refine' pa_cons ?kfq ?kfr ?kfs
                 case kfq => exact pe_int
                 case kfr =>
                  refine' pa_cons ?kft ?kfu ?kfv
                  case kft => exact pe_int
                  case kfu =>
                   refine' pa_cons ?kfw ?kfx ?kfy
                   case kfw => exact pe_int
                   case kfx =>
                    refine' pa_cons ?kfz pa_nil ?kga
                    case kfz => exact pe_int
                    case kga => rfl
                   case kfy => rfl
                  case kfv => rfl
                 case kfs => rfl
               case kfn =>
                refine' pe_def (hdb := zbe) ?kgb ?kgc ?kgd ?kge ?kgf ?kgg
                case kgb => exact D_law_draw
                case kgc => exact (hr.mono (by decide))
                case kgd => exact zc8
                case kge =>
                 refine' pa_cons ?kgh ?kgi ?kgj
                 case kgh => exact (pq 0 (visC zdh) zbn zbo)
                 case kgi =>
                  refine' pa_cons ?kgk pa_nil ?kgl
                  case kgk => exact pe_int
                  case kgl => rfl
                 case kgj => rfl
                case kgf => rfl
                case kgg => rfl
               case kfo =>
                intro _ _
                exact rfl
              case kfk => rfl
             case kfi => rfl
            case kfb =>
             intro _ _ _ _ _
             refine' pg_name (i := 0) ?kgm ?kgn ?kgo ?kgp
             case kgm => exact zdm.nd
             case kgn => exact rfl
             case kgo => exact (locO zdo)
             case kgp => exact (.inr (lookup_relabel_local zdo))
            case kfc =>
             intro _ _ _ _ _
             refine' pe_ix ?kgq ?kgr ?kgs ?kgt
             case kgq => exact ix_list
             case kgr => exact (pq 5 (visF zdp) zcs zct)
             case kgs =>
              refine' pe_def (hdb := zbe) ?kgu ?kgv ?kgw ?kgx ?kgy ?kgz
              case kgu => exact D_law_draw
              case kgv => exact (hr.mono (by decide))
              case kgw => exact (glO zdn)
              case kgx =>
               refine' pa_cons ?kha ?khb ?khc
               case kha => exact (pq 1 (visF zdq) zbn zbo)
               case khb =>
                refine' pa_cons ?khd pa_nil ?khe
                case khd =>
                 refine' pe_callB (hn := zbw) (hdb := zbv) ?khf ?khg ?khh ?khi ?khj ?khk ?khl
                 case khf => exact call_len_seq
                 case khg => exact (glO zdr)
                 case khh => exact Z.n_len
                 case khi => exact bt_len
                 case khj =>
                  refine' pa_cons ?khm pa_nil ?khn
                  case khm => exact (pq 5 (visF zdp) zcs zct)
                  case khn => rfl
                 case khk => rfl
                 case khl => rfl
                case khe => rfl
               case khc => rfl
              case kgy => rfl
              case kgz => rfl
             case kgt =>
              intro _ _
              exact rfl
            case kfd => intro _; rfl
            case kfe => exact .inl rfl
           case kes =>
            refine' pss_one ?kho
            case kho =>
             refine' ps_if ?khp ?khq ?khr
             case khp =>
              refine' pt_cmpR ?khs ?kht ?khu ?khv
              case khs => exact op_lt
              case kht =>
               refine' pe_def (hdb := zbe) ?khw ?khx ?khy ?khz ?kia ?kib
               case khw => exact D_law_draw
               case khx => exact (hr.mono (by decide))
               case khy => exact zc8
               case khz =>
                refine' pa_cons ?kic ?kid ?kie
                case kic => exact (pq 0 (visC zdh) zbn zbo)
                case kid =>
                 refine' pa_cons ?kif pa_nil ?kig
                 case kif => exact pe_int
                 case kig => rfl
                case kie => rfl
               case kia => rfl
               case kib => rfl
              case khu => exact pe_int
              case khv => exact (nomark _)
             case khq =>
              refine' pss_one ?kih
              case kih =>
               refine' ps_expr ?kii ?kij
               case kii =>
                refine' pe_bm ?kik ?kil ?kim ?kin ?kio ?kip ?kiq ?kir ?kis ?kit ?kiu
                case kik => exact PySem.F.plainAttrs_list
                case kil => exact PySem.F.slot_list_append
                case kim => exact PySem.F.type_list_append
                case kin => exact mt_append
                case kio => exact (pq 6 (visL zdi) zc4 zc5)
                case kip =>
                 refine' pa_cons ?kiv pa_nil ?kiw
                 case kiv =>
                  refine' pe_tup ?kix
                  case kix =>
                   refine' pa_cons ?kiy ?kiz ?kja
                   case kiy => exact (pq 8 (visL zde) zcy zcz)
                   case kiz =>
                    refine' pa_cons ?kjb pa_nil ?kjc
                    case kjb => exact (pq 9 (visL zdg) zc2 zc3)
                    case kjc => rfl
                   case kja => rfl
                 case kiw => rfl
                case kiq => rfl
                case kir => rfl
                case kis => rfl
                case kit => rfl
                case kiu => rfl
               case kij => rfl
             case khr =>
              refine' pss_one ?kjd
              case kjd =>
               refine' ps_expr ?kje ?kjf
               case kje =>
                refine' pe_bm ?kjg ?kjh ?kji ?kjj ?kjk ?kjl ?kjm ?kjn ?kjo ?kjp ?kjq
                case kjg => exact PySem.F.plainAttrs_list
                case kjh => exact PySem.F.slot_list_append
                case kji => exact PySem.F.type_list_append
                case kjj => exact mt_append
                case kjk => exact (pq 7 (visL zc9) zcq zcr)
                case kjl =>
                 refine' pa_cons ?kjr pa_nil ?kjs
                 case kjr =>
                  refine' pe_tup ?kjt
                  case kjt =>
                   refine' pa_cons ?kju ?kjv ?kjw
                   case kju => exact (pq 8 (visL zde) zcy zcz)
                   case kjv =>
                    refine' pa_cons ?kjx ?kjy ?kjz
                    case kjx => exact (pq 9 (visL zdg) zc2 zc3)
                    case kjy =>
                     refine' pa_cons ?kka pa_nil ?kkb
                     case kka =>
                      refine' pe_ix ?kkc ?kkd ?kke ?kkf
                      case kkc => exact ix_list
                      case kkd => exact (pq 4 (visC zda) zcs zct)
                      case kke =>
                       refine' pe_def (hdb := zbe) ?kkg ?kkh ?kki ?kkj ?kkk ?kkl
                       case kkg => exact D_law_draw
                       case kkh => exact (hr.mono (by decide))
                       case kki => exact zc8
                       case kkj =>
                        refine' pa_cons ?kkm ?kkn ?kko
                        case kkm => exact (pq 0 (visC zdh) zbn zbo)
                        case kkn =>
                         refine' pa_cons ?kkp pa_nil ?kkq
                         case kkp =>
                          refine' pe_callB (hn := zbw) (hdb := zbv) ?kkr ?kks ?kkt ?kku ?kkv ?kkw ?kkx
                          case kkr => exact call_len_seq
                          case kks => exact zdk
                          case kkt => exact Z.n_len
                          case kku => exact bt_len
                          case kkv =>
                           refine' pa_cons ?kky pa_nil ?kkz
                           case kky => exact (pq 4 (visC zda) zcs zct)
                           case kkz => rfl
                          case kkw => rfl
                          case kkx => rfl
                         case kkq => rfl
                        case kko => rfl
                       case kkk => rfl
                       case kkl => rfl
                      case kkf =>
                       intro _ _
                       exact rfl
                     case kkb => rfl
                    case kjz => rfl
                   case kjw => rfl
                 case kjs => rfl
                case kjm => rfl
                case kjn => rfl
                case kjo => rfl
                case kjp => rfl
                case kjq => rfl
               case kjf => rfl
          case kel => intro _; rfl
         case kef =>
          refine' pss_one ?kla
          case kla =>
           refine' ps_ret ?klb
           case klb =>
            refine' pe_tup ?klc
            case klc =>
             refine' pa_cons ?kld ?kle ?klf
             case kld => exact (pq 4 (visC zda) zcs zct)
             case kle =>
              refine' pa_cons ?klg ?klh ?kli
              case klg => exact (pq 6 (visL zdi) zc4 zc5)
              case klh =>
               refine' pa_cons ?klj pa_nil ?klk
               case klj => exact (pq 7 (visL zc9) zcq zcr)
               case klk => rfl
              case kli => rfl
             case klf => rfl
  refine ⟨by show 11 ≤ sizeLine; decide, fun M1 hM1 => ?_⟩
  have W1 := (Went.refl hp).new hM1 (.lst (menuK.map V.str))
  refine ⟨_, rfl, _, rfl, _, rfl, p, _, rfl, W1.pot, by omega, by omega, fun r1 H1 a0 a1 hp1 s1 => ?_⟩
  have W2 := W1.mk1 hp1 s1
  have hM1' : H1 M1 = some (.lst (menuK.map V.str)) := s1 M1 _ (Ne.symm ((Went.refl hp).ne hM1)) upd_same
  refine ⟨_, _, rfl, rfl, _, rfl, p, M1, (1 + r1).toNat, menuK, ?_, hp1, SqL.of hM1', ?_, by decide, menuK_nd, fun kA ks H2 hkA hkA2 hkl hknd hkin W3 => ?_⟩
  ·show [V.ref p, V.int (1 + r1), V.ref M1] = _
   rw [Int.toNat_of_nonneg (by omega)]
  ·show (1 + r1).toNat ≤ 11
   omega
  have W4 := W2.trans W3
  have kfree : H kA = none := W2.free hkA
  have npk : kA ≠ p := by rintro rfl; obtain ⟨o, e⟩ := hp.some; rw [kfree] at e; cases e
  have hknm : ∀ k ∈ ks, isNm k := fun k hk => menuK_nm k (hkin k hk)
  generalize hH3 : H2 = H3 at *
  have hk3 := hkA2
  have W5 := W4
  refine ⟨by show 13 ≤ sizeLine; decide, fun M2 hM2 => ?_⟩
  have W6 := W5.new hM2 (.lst (menuS.map V.str))
  have hk6 : (upd H3 M2 (.lst (menuS.map V.str))) kA = some (.lst (ks.map V.str)) := by rw [upd_ne (ne_of_none hk3 hM2)]; exact hk3
  refine ⟨_, rfl, _, rfl, _, rfl, _, _, rfl, rfl, p, _, rfl, W6.pot, by omega, by omega, fun r3 H7 c0 c1 hp7 s7 => ?_⟩
  have W7 := W6.mk1 hp7 s7
  have hM7 : H7 M2 = some (.lst (menuS.map V.str)) := s7 M2 _ (Ne.symm (W5.ne hM2)) upd_same
  have hk7 : H7 kA = some (.lst (ks.map V.str)) := s7 kA _ npk hk6
  refine ⟨_, rfl, p, M2, r3.toNat, menuS, ?_, hp7, SqL.of hM7, ?_, by decide, menuS_nd, fun nA ns H8 hnA hnA2 hnl hnnd hnin W8 => ?_⟩
  ·show [V.ref p, V.int r3, V.ref M2] = _
   rw [Int.toNat_of_nonneg c0]
  ·show r3.toNat ≤ 13
   omega
  have W9 := W7.trans W8
  have nfree : H nA = none := W7.free hnA
  have npn : nA ≠ p := by rintro rfl; obtain ⟨o, e⟩ := hp.some; rw [nfree] at e; cases e
  have hk8 : H8 kA = some (.lst (ks.map V.str)) := W8.at npk hk7
  have hnsg : ∀ k ∈ ns, isSg k := fun k hk => menuS_sg k (hnin k hk)
  have hn9 := hnA2
  have hk9 := hk8
  have W10 := W9
  refine ⟨by show 0 ≤ sizeLine; decide, fun tA htA => ?_⟩
  have W11 := W10.new htA (.lst [])
  refine ⟨by show 0 ≤ sizeLine; decide, fun fA hfA => ?_⟩
  have W12 := W11.new hfA (.lst [])
  have tfree : H tA = none := W10.free htA
  have ffree : H fA = none := W11.free hfA
  have ntf : tA ≠ fA := ne_of_none upd_same hfA
  have hpt : p ≠ tA := W10.ne htA
  have hpf : p ≠ fA := W11.ne hfA
  have nkt : kA ≠ tA := ne_of_none hk9 htA
  have nkf : kA ≠ fA := ne_of_none (by rw [upd_ne nkt]; exact hk9) hfA
  have nnt : nA ≠ tA := ne_of_none hn9 htA
  have nnf : nA ≠ fA := ne_of_none (by rw [upd_ne nnt]; exact hn9) hfA
  have pne : ∀ a, H a = none → a ≠ p := fun a e => by rintro rfl; obtain ⟨o, e2⟩ := hp.some; rw [e] at e2; cases e2
  have keepR : ∀ {H2 H3 : Hp} {xs : List V} {ds : List PyData}, SameX p H2 H3 → RdA (fun a => H a = none ∧ a ≠ tA ∧ a ≠ fA) H2 xs ds → RdA (fun a => H a = none ∧ a ≠ tA ∧ a ≠ fA) H3 xs ds := fun s r => r.mono (fun _ z => z) fun a o z e => s a o (pne a z.1) e
  refine ⟨_, rfl, nA, rfl, ⟨_, SqL.of (by rw [upd_ne nnf, upd_ne nnt]; exact hn9)⟩, for_list (K := K) (a := nA) (xs := ns.map V.str) (fun i σ H2 => ∃ (ts : List TieR) (fs : List FunR) (tv fv : List V) (v8 v9 : Option V), σ = [some (.ref p), some (.int mk), some (.int ms), some (.ref M2), some (.ref kA), some (.ref nA), some (.ref tA), some (.ref fA), v8, v9] ∧
    H2 tA = some (.lst tv) ∧ RdA (fun a => H a = none ∧ a ≠ tA ∧ a ≠ fA) H2 tv (ts.map tieL) ∧ H2 fA = some (.lst fv) ∧ RdA (fun a => H a = none ∧ a ≠ tA ∧ a ≠ fA) H2 fv (fs.map funL) ∧
    (ts.map (·.nm) ++ fs.map (·.nm)).Perm (ns.take i) ∧ (∀ t ∈ ts, isSg t.nm ∧ t.ps.length ≤ 2 ∧ ∀ k ∈ t.ps, k ∈ ks) ∧ (∀ t ∈ fs, isSg t.nm ∧ t.ps.length ≤ 2 ∧ (∀ k ∈ t.ps, k ∈ ks) ∧ t.kd ∈ ks) ∧ H2 kA = some (.lst (ks.map V.str)) ∧ H2 nA = some (.lst (ns.map V.str)) ∧ Went p H H2)
   ⟨[], [], [], [], none, none, rfl, (by rw [upd_ne ntf]; exact upd_same), .nil, upd_same, .nil, (by simp), (fun _ h => nomatch h), (fun _ h => nomatch h), (by rw [upd_ne nkf, upd_ne nkt]; exact hk9), (by rw [upd_ne nnf, upd_ne nnt]; exact hn9), W12⟩
   (fun i σ H2 _ ⟨_, _, _, _, _, _, _, _, _, _, _, _, _, _, _, z, _⟩ => SqL.of z) ?_ ?_⟩
  ·rintro i y σ H2 hi ⟨ts, fs, tv, fv, v8, v9, rfl, hT, rT, hF, rF, hperm, okT, okF, hK, hN, W⟩
   have hil : i < ns.length := by have := (List.getElem?_eq_some_iff.mp hi).1; simpa using this
   obtain rfl : y = V.str ns[i] := by
    have : (ns.map V.str)[i]? = some (V.str ns[i]) := by simp [hil]
    rw [this] at hi; exact (Option.some.inj hi).symm
   have lenT : ts.length + fs.length = i := by
    have := hperm.length_eq
    simp only [List.length_append, List.length_map, List.length_take] at this
    omega
   have tvl : tv.length = ts.length := by rw [rT.length, List.length_map]
   have fvl : fv.length = fs.length := by rw [rF.length, List.length_map]
   have n8 : ns.length ≤ 8 := by omega
   refine ⟨by show 4 ≤ sizeLine; decide, fun L hL => ?_⟩
   have V1 := (Went.refl W.pot).new hL (.lst [.int 0, .int 1, .int 1, .int 2])
   refine ⟨_, rfl, p, _, rfl, V1.pot, by decide, by decide, fun r5 H10 e0 e1 hp10 s10 => ?_⟩
   have V2 := V1.mk1 hp10 s10
   have hL10 : H10 L = some (.lst [.int 0, .int 1, .int 1, .int 2]) := s10 L _ (Ne.symm ((Went.refl W.pot).ne hL)) upd_same
   obtain ⟨c, hc, hc0, hc2⟩ : ∃ c : Int, atI [V.int 0, V.int 1, V.int 1, V.int 2] r5 = some (V.int c) ∧ 0 ≤ c ∧ c ≤ 2 := by
    have h4 : r5 = 0 ∨ r5 = 1 ∨ r5 = 2 ∨ r5 = 3 := by omega
    rcases h4 with rfl | rfl | rfl | rfl
    ·exact ⟨0, rfl, by decide, by decide⟩
    ·exact ⟨1, rfl, by decide, by decide⟩
    ·exact ⟨1, rfl, by decide, by decide⟩
    ·exact ⟨2, rfl, by decide, by decide⟩
   refine ⟨L, _, r5, _, rfl, rfl, SqL.of hL10, hc, c, rfl, by omega, by omega, ?_⟩
   intro cl C ex sc Hc
   refine comp_it1 c.toNat (fun j ys H11 => ∃ us : List Str, ys = us.map V.str ∧ (∀ u ∈ us, u ∈ ks) ∧ Went p H2 H11) (fun _ _ => True)
    ⟨[], rfl, (fun _ h => nomatch h), V2⟩ (Nat.le_trans (show c.toNat ≤ 100 by omega) (show 100 ≤ sizeLine by decide)) (fun i ys H1 hi _ _ => ⟨hi, fun x H' y => ⟨y.1, trivial⟩⟩) (fun _ _ _ _ => Nat.le_refl _) ?_ ?_
   ·rintro j x ys H11 hj _ hy ⟨us, rfl, hus, V3⟩
    have hK11 : H11 kA = some (.lst (ks.map V.str)) := V3.at npk hK
    refine ⟨_, rfl, _, rfl, _, rfl, kA, _, rfl, .inl (SqL.of hK11), p, _, rfl, V3.pot, by rw [List.length_map]; omega, by rw [List.length_map]; omega, fun r6 H12 g0 g1 hp12 s12 => ?_⟩
    rw [List.length_map] at g1
    have hr6 : r6.toNat < ks.length := by omega
    refine ⟨kA, _, r6, V.str ks[r6.toNat], rfl, rfl, SqL.of (s12 kA _ npk hK11), atI_int g0 (by simp [hr6]), us ++ [ks[r6.toNat]], by simp, fun u hu => ?_, V3.mk1 hp12 s12⟩
    rcases List.mem_append.mp hu with hu | hu
    ·exact hus u hu
    ·rw [List.mem_singleton.mp hu]; exact List.getElem_mem hr6
   rintro ys H11 hy ⟨us, rfl, hus, V3⟩ D hD
   have hul : us.length ≤ 2 := by
    have : us.length = c.toNat := by simpa using hy
    omega
   have V4 := V3.new hD (.lst (us.map V.str))
   have W4 : Went p H (upd H11 D (.lst (us.map V.str))) := ⟨V4.pot, W.same.trans V4.same⟩
   refine ⟨_, rfl, p, _, rfl, V4.pot, by decide, by decide, fun r7 H13 k0 k1 hp13 s13 => ?_⟩
   refine ⟨_, _, rfl, rfl, _, rfl, ?_⟩
   have V5 := V4.mk1 hp13 s13
   have W5 : Went p H H13 := ⟨hp13, W4.same.trans s13⟩
   have hT13 : H13 tA = some (.lst tv) := V5.at (Ne.symm hpt) hT
   have hF13 : H13 fA = some (.lst fv) := V5.at (Ne.symm hpf) hF
   have hK13 : H13 kA = some (.lst (ks.map V.str)) := V5.at npk hK
   have hN13 : H13 nA = some (.lst (ns.map V.str)) := V5.at npn hN
   have rT13 := keepR V5.same rT
   have rF13 := keepR V5.same rF
   have nDp : D ≠ p := Ne.symm (V3.ne hD)
   have hD13 : H13 D = some (.lst (us.map V.str)) := s13 D _ nDp upd_same
   have hDfree : H D = none := (show Went p H H11 from ⟨V3.pot, W.same.trans V3.same⟩).free hD
   have nDt : D ≠ tA := by rintro rfl; rw [V3.at (Ne.symm hpt) hT] at hD; cases hD
   have nDf : D ≠ fA := by rintro rfl; rw [V3.at (Ne.symm hpf) hF] at hD; cases hD
   have ptake : ns.take (i + 1) = ns.take i ++ [ns[i]] := by rw [List.take_succ]; simp [hil]
   refine ite2 (fun _ => ?_) (fun _ => ?_)
   ·
    refine ⟨_, rfl, .inl ⟨rfl, _, SqL.of hT13⟩, _, rfl, _, rfl, by show 2 ≤ sizeLine; decide, fun T hTn => ?_⟩
    have nTp := W5.ne hTn
    have nTt : T ≠ tA := by rintro rfl; rw [hT13] at hTn; cases hTn
    have nTf : T ≠ fA := by rintro rfl; rw [hF13] at hTn; cases hTn
    have W6 := W5.new hTn (.tup [.str ns[i], .ref D])
    refine ⟨tA, tv, _, rfl, rfl, by rw [upd_ne (Ne.symm nTt)]; exact hT13, Nat.lt_of_lt_of_le (show tv.length < 100 by omega) (by decide), ?_⟩
    have W7 := W6.put hpt tfree (.lst (tv ++ [.ref T]))
    have st : ∀ a o, (H a = none ∧ a ≠ tA ∧ a ≠ fA) → H13 a = some o → (upd (upd H13 T (.tup [.str ns[i], .ref D])) tA (.lst (tv ++ [.ref T]))) a = some o := fun a o z e => by rw [upd_ne z.2.1, upd_ne (ne_of_none e hTn)]; exact e
    refine ⟨ts ++ [⟨ns[i], us⟩], fs, tv ++ [.ref T], fv, _, _, rfl, upd_same, ?_, ?_, ?_, ?_, ?_, okF, ?_, ?_, W7⟩
    ·rw [List.map_append]
     refine (rT13.mono (fun _ z => z) st).snoc (.tup ⟨W5.free hTn, nTt, nTf⟩ (by rw [upd_ne nTt]; exact upd_same) (.cons (.str _) (.cons (.lst ⟨hDfree, nDt, nDf⟩ (st D _ ⟨hDfree, nDt, nDf⟩ hD13) (RdA.strs us)) .nil)))
    ·rw [upd_ne (Ne.symm ntf), upd_ne (Ne.symm nTf)]; exact hF13
    ·exact rF13.mono (fun _ z => z) st
    ·rw [List.map_append, List.map_cons, List.map_nil, ptake, List.append_assoc]
     refine (List.Perm.append_left _ List.perm_append_comm).trans ?_
     rw [← List.append_assoc]
     exact List.Perm.append_right _ hperm
    ·intro t ht
     rcases List.mem_append.mp ht with ht | ht
     ·exact okT t ht
     ·rw [List.mem_singleton.mp ht]; exact ⟨hnsg _ (List.getElem_mem hil), hul, hus⟩
    ·rw [upd_ne nkt, upd_ne (ne_of_none hK13 hTn)]; exact hK13
    ·rw [upd_ne nnt, upd_ne (ne_of_none hN13 hTn)]; exact hN13
   ·
    refine ⟨_, rfl, .inl ⟨rfl, _, SqL.of hF13⟩, _, rfl, _, rfl, _, rfl, _, rfl, _, rfl, kA, _, rfl, .inl (SqL.of hK13), p, _, rfl, hp13, by rw [List.length_map]; omega, by rw [List.length_map]; omega, fun r8 H14 m0 m1 hp14 s14 => ?_⟩
    rw [List.length_map] at m1
    have hr8 : r8.toNat < ks.length := by omega
    have hK14 := s14 kA _ npk hK13
    have hT14 := s14 tA _ (Ne.symm hpt) hT13
    have hF14 := s14 fA _ (Ne.symm hpf) hF13
    have hN14 := s14 nA _ npn hN13
    have rT14 := keepR s14 rT13
    have rF14 := keepR s14 rF13
    have hD14 := s14 D _ nDp hD13
    have W6 := W5.mk1 hp14 s14
    refine ⟨kA, _, r8, V.str ks[r8.toNat], rfl, rfl, SqL.of hK14, atI_int m0 (by simp [hr8]), by show 3 ≤ sizeLine; decide, fun T hTn => ?_⟩
    have nTt : T ≠ tA := by rintro rfl; rw [hT14] at hTn; cases hTn
    have nTf : T ≠ fA := by rintro rfl; rw [hF14] at hTn; cases hTn
    have W7 := W6.new hTn (.tup [.str ns[i], .ref D, .str ks[r8.toNat]])
    refine ⟨fA, fv, _, rfl, rfl, by rw [upd_ne (Ne.symm nTf)]; exact hF14, Nat.lt_of_lt_of_le (show fv.length < 100 by omega) (by decide), ?_⟩
    have W8 := W7.put hpf ffree (.lst (fv ++ [.ref T]))
    have st : ∀ a o, (H a = none ∧ a ≠ tA ∧ a ≠ fA) → H14 a = some o → (upd (upd H14 T (.tup [.str ns[i], .ref D, .str ks[r8.toNat]])) fA (.lst (fv ++ [.ref T]))) a = some o := fun a o z e => by rw [upd_ne z.2.2, upd_ne (ne_of_none e hTn)]; exact e
    refine ⟨ts, fs ++ [⟨ns[i], us, ks[r8.toNat]⟩], tv, fv ++ [.ref T], _, _, rfl, ?_, ?_, upd_same, ?_, ?_, okT, ?_, ?_, ?_, W8⟩
    ·rw [upd_ne ntf, upd_ne (Ne.symm nTt)]; exact hT14
    ·exact rT14.mono (fun _ z => z) st
    ·rw [List.map_append]
     refine (rF14.mono (fun _ z => z) st).snoc (.tup ⟨W6.free hTn, nTt, nTf⟩ (by rw [upd_ne nTf]; exact upd_same) (.cons (.str _) (.cons (.lst ⟨hDfree, nDt, nDf⟩ (st D _ ⟨hDfree, nDt, nDf⟩ hD14) (RdA.strs us)) (.cons (.str _) .nil))))
    ·rw [List.map_append, List.map_cons, List.map_nil, ptake, ← List.append_assoc]
     exact List.Perm.append_right _ hperm
    ·intro t ht
     rcases List.mem_append.mp ht with ht | ht
     ·exact okF t ht
     ·rw [List.mem_singleton.mp ht]; exact ⟨hnsg _ (List.getElem_mem hil), hul, hus, List.getElem_mem hr8⟩
    ·rw [upd_ne nkf, upd_ne (ne_of_none hK14 hTn)]; exact hK14
    ·rw [upd_ne nnf, upd_ne (ne_of_none hN14 hTn)]; exact hN14
  ·rintro σ H2 ⟨ts, fs, tv, fv, v8, v9, rfl, hT, rT, hF, rF, hperm, okT, okF, hK, hN, W⟩
   rw [List.length_map, List.take_length] at hperm
   have lenT : ts.length + fs.length = ns.length := by
    have := hperm.length_eq
    simpa using this
   refine ⟨_, rfl, _, rfl, _, rfl, by show 3 ≤ sizeLine; decide, fun B hB => ?_⟩
   have hs := same_new hB (.tup [.ref kA, .ref tA, .ref fA])
   refine q _ _ ks ts fs (.tup (W.free hB) upd_same (.cons (.lst kfree (hs _ _ hK) (RdA.strs ks)) (.cons (.lst tfree (hs _ _ hT) (rT.mono (fun _ z => z.1) fun a o _ e => hs a o e)) (.cons (.lst ffree (hs _ _ hF) (rF.mono (fun _ z => z.1) fun a o _ e => hs a o e)) .nil))))
    ⟨hknd, by omega, by omega, hknm, (List.Perm.nodup_iff hperm).mpr hnnd, by omega, okT, okF⟩ (by omega) (by omega) (W.new hB _)
end
end Few

set_option Elab.async false
set_option linter.all false
set_option maxRecDepth 100000
set_option maxHeartbeats 1000000
namespace FewE
open PySem L2 Few
theorem zds : ((Str.ofString "LETTERS" : Str) == ("__debug__" : Str)) = false := by decide +kernel
theorem zdt : ((Str.ofString "LONGEST_NAME" : Str) == ("__debug__" : Str)) = false := by decide +kernel
theorem zdu : ((Str.ofString "MOST_KINDS" : Str) == ("__debug__" : Str)) = false := by decide +kernel
theorem zdv : ((Str.ofString "MOST_PLACES" : Str) == ("__debug__" : Str)) = false := by decide +kernel
theorem zdw : ((Str.ofString "NoSigns" : Str) == ("__debug__" : Str)) = false := by decide +kernel
theorem zdx : ((Str.ofString "WORDS_OF_SAYINGS" : Str) == ("__debug__" : Str)) = false := by decide +kernel
theorem zdy : ((Str.ofString "all" : Str) == ("__debug__" : Str)) = false := by decide +kernel
theorem zdz : (Str.ofString "all" : Str) ≠ "__name__" := by decide +kernel
theorem zd0 : ((Str.ofString "check_apart" : Str) == ("__debug__" : Str)) = false := by decide +kernel
theorem zd1 : ((Str.ofString "checked_kind" : Str) == ("__debug__" : Str)) = false := by decide +kernel
theorem zd2 : ((Str.ofString "checked_places" : Str) == ("__debug__" : Str)) = false := by decide +kernel
theorem zd3 : ((Str.ofString "checked_sign_name" : Str) == ("__debug__" : Str)) = false := by decide +kernel
theorem zd4 : ((Str.ofString "function" : Str) == ("__debug__" : Str)) = false := by decide +kernel
theorem zd5 : ((Str.ofString "function" : Str) == ("__classdict__" : Str)) = false := by decide +kernel
theorem zd6 : ((Str.ofString "is_list" : Str) == ("__debug__" : Str)) = false := by decide +kernel
theorem zd7 : ((Str.ofString "is_name" : Str) == ("__debug__" : Str)) = false := by decide +kernel
theorem zd8 : ((Str.ofString "isinstance" : Str) == ("__debug__" : Str)) = false := by decide +kernel
theorem zd9 : (Str.ofString "isinstance" : Str) ≠ "__name__" := by decide +kernel
theorem zea : ((Str.ofString "kind" : Str) == ("__debug__" : Str)) = false := by decide +kernel
theorem zeb : ((Str.ofString "kind" : Str) == ("__classdict__" : Str)) = false := by decide +kernel
theorem zec : ((Str.ofString "kinds" : Str) == ("__debug__" : Str)) = false := by decide +kernel
theorem zed : ((Str.ofString "kinds" : Str) == ("__classdict__" : Str)) = false := by decide +kernel
theorem zee : ((Str.ofString "name" : Str) == ("__debug__" : Str)) = false := by decide +kernel
theorem zef : ((Str.ofString "name" : Str) == ("__classdict__" : Str)) = false := by decide +kernel
theorem zeg : ((Str.ofString "names" : Str) == ("__debug__" : Str)) = false := by decide +kernel
theorem zeh : ((Str.ofString "names" : Str) == ("__classdict__" : Str)) = false := by decide +kernel
theorem zei : ((Str.ofString "places" : Str) == ("__debug__" : Str)) = false := by decide +kernel
theorem zej : ((Str.ofString "places" : Str) == ("__classdict__" : Str)) = false := by decide +kernel
theorem zek : ((Str.ofString "set" : Str) == ("__debug__" : Str)) = false := by decide +kernel
theorem zel : (Str.ofString "set" : Str) ≠ "__name__" := by decide +kernel
theorem zem : ((Str.ofString "sign" : Str) == ("__debug__" : Str)) = false := by decide +kernel
theorem zen : ((Str.ofString "sign" : Str) == ("__classdict__" : Str)) = false := by decide +kernel
theorem zeo : ((Str.ofString "str" : Str) == ("__debug__" : Str)) = false := by decide +kernel
theorem zep : (Str.ofString "str" : Str) ≠ "__name__" := by decide +kernel
theorem zeq : ((Str.ofString "thing" : Str) == ("__debug__" : Str)) = false := by decide +kernel
theorem zer : ((Str.ofString "thing" : Str) == ("__classdict__" : Str)) = false := by decide +kernel
theorem zes : ((Str.ofString "tie" : Str) == ("__debug__" : Str)) = false := by decide +kernel
theorem zet : ((Str.ofString "tie" : Str) == ("__classdict__" : Str)) = false := by decide +kernel
theorem zeu : ((Str.ofString "tuple" : Str) == ("__debug__" : Str)) = false := by decide +kernel
theorem zev : (Str.ofString "tuple" : Str) ≠ "__name__" := by decide +kernel
noncomputable def tr (p : Prop) : Bool := @decide p (Classical.propDecidable p)
theorem tr_of {p : Prop} (h : p) : tr p = true := by unfold tr; exact @decide_eq_true p (Classical.propDecidable p) h
theorem tr_no {p : Prop} (h : ¬ p) : tr p = false := by unfold tr; exact @decide_eq_false p (Classical.propDecidable p) h
def rowO : Option HO → Option (List V)
 | some (.lst xs) => some xs
 | some (.tup xs) => some xs
 | _ => none
def rowOf (H : Hp) : V → Option (List V)
 | .ref a => rowO (H a)
 | _ => none
theorem rowOf.lt {H : Hp} {v : V} {xs : List V} (h : rowOf H v = some xs) : ∃ a, v = .ref a ∧ LT H a xs := by
 cases v with
 | ref a =>
  refine ⟨a, rfl, ?_⟩
  replace h : rowO (H a) = some xs := h
  unfold rowO at h
  split at h
  ·rename_i e; exact .inl (by rw [e, Option.some.inj h])
  ·rename_i e; exact .inr (by rw [e, Option.some.inj h])
  ·cases h
 | _ => cases h
theorem row_of {H : Hp} {a : Addr} {xs : List V} (h : LT H a xs) : rowOf H (.ref a) = some xs := by
 show rowO (H a) = some xs
 rcases h with h | h <;> (rw [h]; rfl)
theorem row_dct {H : Hp} {a : Addr} {kvs : List (Key × V)} (h : H a = some (.dK kvs)) : rowOf H (.ref a) = none := by
 show rowO (H a) = none
 rw [h]; rfl
inductive Sh (H : Hp) : V → Prop where
 | non : Sh H .non
 | bl (b : Bool) : Sh H (.bl b)
 | int (i : Int) : Sh H (.int i)
 | str (z : Str) (h : z.length ≤ sizeLine) : Sh H (.str z)
 | row {a : Addr} {xs : List V} (h : LT H a xs) : Sh H (.ref a)
 | dct {a : Addr} {kvs : List (Key × V)} (h : H a = some (.dK kvs)) : Sh H (.ref a)
def Dat : Nat → Hp → V → Prop
 | 0, H, v => Sh H v
 | n + 1, H, v => Sh H v ∧ ∀ xs, rowOf H v = some xs → ∀ x ∈ xs, Dat n H x
theorem Sh.same {H H' : Hp} {v : V} (h : Sh H v) (s : Same H H') : Sh H' v := by
 cases h with
 | non => exact .non
 | bl b => exact .bl b
 | int i => exact .int i
 | str z h => exact .str z h
 | row h => exact .row (h.same s)
 | dct h => exact .dct (s _ _ h)
theorem Sh.rows {H H' : Hp} {v : V} (h : Sh H v) (s : Same H H') : rowOf H' v = rowOf H v := by
 cases h with
 | non => rfl
 | bl b => rfl
 | int i => rfl
 | str z h => rfl
 | row h => rw [row_of h, row_of (h.same s)]
 | dct h => rw [row_dct h, row_dct (s _ _ h)]
theorem Dat.sh : ∀ {n : Nat} {H : Hp} {v : V}, Dat n H v → Sh H v
 | 0, _, _, h => h
 | _ + 1, _, _, h => h.1
theorem Dat.same : ∀ {n : Nat} {H H' : Hp} {v : V}, Dat n H v → Same H H' → Dat n H' v
 | 0, _, _, _, h, s => Sh.same h s
 | n + 1, _, _, _, h, s => ⟨h.1.same s, fun xs e x hx => (h.2 xs (by rw [← h.1.rows s]; exact e) x hx).same s⟩
theorem Sh.isi2 {K : PySem.W.Frag} {H : Hp} {v : V} (h : Sh H v) : ∃ t, TyOf K H v t ∧ PySem.W.kitAny K t [.type "list", .type "tuple"] = some (rowOf H v).isSome := by
 cases h with
 | non => exact ⟨_, .non, rfl⟩
 | bl b => exact ⟨_, .bl b, rfl⟩
 | int i => exact ⟨_, .int i, rfl⟩
 | str z h => exact ⟨_, .str z, rfl⟩
 | row h =>
  obtain ⟨t, h1, h2⟩ := h.isi2 (K := K)
  exact ⟨t, h1, by rw [row_of h]; exact h2⟩
 | dct h => exact ⟨_, .dK h, by rw [row_dct h]; rfl⟩
def isStr : V → Bool
 | .str _ => true
 | _ => false
theorem Sh.isS {K : PySem.W.Frag} {H : Hp} {v : V} (h : Sh H v) : ∃ t, TyOf K H v t ∧ PySem.W.kitOne K t (.type "str") = some (isStr v) := by
 cases h with
 | non => exact ⟨_, .non, rfl⟩
 | bl b => exact ⟨_, .bl b, rfl⟩
 | int i => exact ⟨_, .int i, rfl⟩
 | str z h => exact ⟨_, .str z, rfl⟩
 | row h =>
  rcases h with h | h
  ·exact ⟨_, .lst h, rfl⟩
  ·exact ⟨_, .tup h, rfl⟩
 | dct h => exact ⟨_, .dK h, rfl⟩
theorem Sh.len {H : Hp} {z : Str} (h : Sh H (.str z)) : z.length ≤ sizeLine := by cases h; assumption
theorem isStr.ex {v : V} (h : isStr v = true) : ∃ z, v = .str z := by cases v <;> first | exact ⟨_, rfl⟩ | cases h
def let1 (c : Nat) : Bool := !(Builtin.Str.occurrences abc ⟨#[c]⟩ 0 abc.length 1).isEmpty
def isN (z : Str) : Prop := 1 ≤ z.cps.toList.length ∧ z.cps.toList.length ≤ 12 ∧ ∀ c ∈ z.cps.toList, let1 c = true
def NmV (v : V) : Prop := ∃ z, v = .str z ∧ isN z
theorem nm_str {z : Str} : NmV (.str z) ↔ isN z := ⟨fun ⟨_, e, h⟩ => by cases e; exact h, fun h => ⟨z, rfl, h⟩⟩
theorem foldS_le : ∀ (xs σ : List Str), (xs.foldl stepS σ).length ≤ σ.length + xs.length
 | [], σ => Nat.le_refl _
 | x :: r, σ => by
  have h := foldS_le r (stepS σ x)
  have h2 : (stepS σ x).length ≤ σ.length + 1 := by unfold stepS; split <;> simp
  rw [List.foldl_cons, List.length_cons]; omega
theorem foldS_eq : ∀ (xs σ : List Str), (xs.foldl stepS σ).length = σ.length + xs.length → xs.Nodup ∧ ∀ x ∈ xs, ¬ x ∈ σ
 | [], σ, _ => ⟨List.nodup_nil, fun _ z => nomatch z⟩
 | x :: r, σ, h => by
  rw [List.foldl_cons, List.length_cons] at h
  have l := foldS_le r (stepS σ x)
  by_cases hx : σ.any (· == x) = true
  ·have e : stepS σ x = σ := by unfold stepS; rw [if_pos hx]
   rw [e] at l h; omega
  ·have e : stepS σ x = σ ++ [x] := by unfold stepS; rw [if_neg hx]
   rw [e] at h
   obtain ⟨h1, h2⟩ := foldS_eq r (σ ++ [x]) (by rw [h]; simp; omega)
   refine ⟨List.nodup_cons.mpr ⟨fun z => h2 x z (by simp), h1⟩, fun y hy z => ?_⟩
   rcases List.mem_cons.mp hy with rfl | hy
   ·exact hx (List.any_eq_true.mpr ⟨y, z, by simp⟩)
   ·exact h2 y hy (by simp [z])
theorem strs_of : ∀ {xs : List V}, (∀ x ∈ xs, NmV x) → ∃ ks : List Str, xs = ks.map V.str ∧ ∀ k ∈ ks, isN k
 | [], _ => ⟨[], rfl, fun _ z => nomatch z⟩
 | x :: r, h => by
  obtain ⟨z, e, hz⟩ := h x List.mem_cons_self
  obtain ⟨ks, e2, h2⟩ := strs_of (xs := r) fun y hy => h y (List.mem_cons_of_mem _ hy)
  refine ⟨z :: ks, by rw [e, e2]; rfl, fun k hk => ?_⟩
  rcases List.mem_cons.mp hk with rfl | hk
  ·exact hz
  ·exact h2 k hk
theorem strs_inj : ∀ {a b : List Str}, a.map V.str = b.map V.str → a = b
 | [], [], _ => rfl
 | [], _ :: _, h => by cases h
 | _ :: _, [], h => by cases h
 | x :: r, y :: t, h => by
  rw [List.map_cons, List.map_cons] at h
  injection h with h1 h2
  injection h1 with h1
  rw [h1, strs_inj h2]
structure KOk (ks : List Str) : Prop where
 kn : ks.Nodup
 k1 : 1 ≤ ks.length
 k4 : ks.length ≤ 4
 kn2 : ∀ k ∈ ks, isN k
def KindsV (H : Hp) (v : V) (ks : List Str) : Prop := rowOf H v = some (ks.map V.str) ∧ KOk ks
def KindV (ks : List Str) (v : V) (k : Str) : Prop := v = .str k ∧ isN k ∧ k ∈ ks
def SgnV (v : V) (k : Str) : Prop := v = .str k ∧ isN k ∧ ¬ k ∈ sayWords
def PlcV (H : Hp) (ks : List Str) (v : V) (ps : List Str) : Prop := rowOf H v = some (ps.map V.str) ∧ ps.length ≤ 2 ∧ ∀ k ∈ ps, isN k ∧ k ∈ ks
def TieV (H : Hp) (ks : List Str) (v : V) (nm : Str) (ps : List Str) : Prop := ∃ x y, rowOf H v = some [x, y] ∧ SgnV x nm ∧ PlcV H ks y ps
def FunV (H : Hp) (ks : List Str) (v : V) (nm : Str) (ps : List Str) (kd : Str) : Prop := ∃ x y z, rowOf H v = some [x, y, z] ∧ SgnV x nm ∧ PlcV H ks y ps ∧ KindV ks z kd
section
variable {P : Program} {w : World} {K : PySem.W.Frag} {mg : Str → Option Value} {base : Heap}
abbrev s_is_list : Stmt := top 14
theorem zew : FnScope ["thing"] ["thing"] (defScope s_is_list) := ⟨rfl, rfl, rfl, by decide +kernel, rfl, by decide +kernel, by decide +kernel⟩
theorem zex : (defScope s_is_list).names.lookup (Str.ofString "isinstance") = some NameKind.globalImplicit := by decide +kernel
theorem zey : (defScope s_is_list).names.lookup (Str.ofString "list") = some NameKind.globalImplicit := by decide +kernel
theorem zez : (defScope s_is_list).names.lookup (Str.ofString "thing") = some NameKind.local := by decide +kernel
theorem ze0 : (defScope s_is_list).names.lookup (Str.ofString "tuple") = some NameKind.globalImplicit := by decide +kernel
def spIsList : Sp := fun vs H Q _ => ∃ v, vs = [v] ∧ Sh H v ∧ ∀ H', Same H H' → Q (.bl (rowOf H v).isSome) H'
theorem ok_is_list (F : FunAt K mg "is_list" s_is_list ["thing"]) (Z : Bl mg) : DefE P w K mg base "is_list" 1 ["thing"] spIsList := by
 have SC := zew
 refine F.mkE (k := 0) zew (fun vs H Q E h => ?_) (fun f cdv A outer s H vs Q E hr h => ?_)
 ·obtain ⟨v, rfl, _⟩ := h
  rfl
 ·obtain ⟨v, rfl, hv, q⟩ := h
  refine' ⟨_, ?derivation, ?_⟩
  case derivation =>
   refine' pss_one ?ka
   case ka =>
    refine' ps_ret ?kb
    case kb =>
     refine' pe_callB (hn := zd9) (hdb := zd8) ?kc zex Z.n_isinstance bt_isinstance ?kd rfl rfl
     case kc => exact (call_isi2 (T := "list") (U := "tuple"))
     case kd =>
      refine' pa_cons ?ke ?kf rfl
      case ke => exact (pq 0 (visL zez) zeq zer)
      case kf =>
       refine' pa_cons ?kg pa_nil rfl
       case kg =>
        refine' pe_tup ?kh
        case kh =>
         refine' pa_cons ?ki ?kj rfl
         case ki =>
          refine' pe_bltn (v := V.ty "list") (hn := zby) (hd := zbx) zey Z.n_list bt_list ?kk
          case kk => exact rfl
         case kj =>
          refine' pa_cons ?kl pa_nil rfl
          case kl =>
           refine' pe_bltn (v := V.ty "tuple") (hn := zev) (hd := zeu) ze0 Z.n_tuple bt_tuple ?km
           case km => exact rfl
  refine ⟨_, rfl, by show 2 ≤ sizeLine; decide, fun t ht => ?_⟩
  have st := same_new ht (.tup [.ty "list", .ty "tuple"])
  obtain ⟨ty, hty, hk⟩ := (hv.same st).isi2 (K := K)
  rw [hv.rows st] at hk
  exact ⟨_, t, ty, _, rfl, upd_same, hty, hk, q _ st⟩
abbrev s_is_name : Stmt := top 15
theorem ze1 : FnScope ["thing"] ["thing"] (defScope s_is_name) := ⟨rfl, rfl, rfl, by decide +kernel, rfl, by decide +kernel, by decide +kernel⟩
theorem ze2 : (defScope s_is_name).names.lookup (Str.ofString "LONGEST_NAME") = some NameKind.globalImplicit := by decide +kernel
theorem ze3 : (defScope s_is_name).names.lookup (Str.ofString "all") = some NameKind.globalImplicit := by decide +kernel
theorem ze4 : (defScope s_is_name).names.lookup (Str.ofString "isinstance") = some NameKind.globalImplicit := by decide +kernel
theorem ze5 : (defScope s_is_name).names.lookup (Str.ofString "len") = some NameKind.globalImplicit := by decide +kernel
theorem ze6 : (defScope s_is_name).names.lookup (Str.ofString "str") = some NameKind.globalImplicit := by decide +kernel
theorem ze7 : (defScope s_is_name).names.lookup (Str.ofString "thing") = some NameKind.local := by decide +kernel
theorem ze8 : CompSc 1 ["sign", "thing"] ["thing"] (defScope s_is_name) { kind := PySem.ScopeKind.function, names := [ (PySem.Str.ofString ".0", PySem.NameKind.local), (PySem.Str.ofString "sign", PySem.NameKind.local), (PySem.Str.ofString "LETTERS", PySem.NameKind.globalImplicit)], isGenerator := false, isCoroutine := false, more := [] : PySem.Scope } := ⟨rfl, by decide +kernel, by decide +kernel, by decide +kernel, by decide +kernel, rfl, by decide +kernel⟩
theorem ze9 : ({ kind := PySem.ScopeKind.function, names := [ (PySem.Str.ofString ".0", PySem.NameKind.local), (PySem.Str.ofString "sign", PySem.NameKind.local), (PySem.Str.ofString "LETTERS", PySem.NameKind.globalImplicit)], isGenerator := false, isCoroutine := false, more := [] : PySem.Scope } : Scope).names.lookup (Str.ofString "LETTERS") = some NameKind.globalImplicit := by decide +kernel
theorem zfa : ({ kind := PySem.ScopeKind.function, names := [ (PySem.Str.ofString ".0", PySem.NameKind.local), (PySem.Str.ofString "sign", PySem.NameKind.local), (PySem.Str.ofString "LETTERS", PySem.NameKind.globalImplicit)], isGenerator := false, isCoroutine := false, more := [] : PySem.Scope } : Scope).names.lookup (Str.ofString "sign") = some NameKind.local := by decide +kernel
def spIsName : Sp := fun vs H Q _ => ∃ v, vs = [v] ∧ Sh H v ∧ ∀ H', Same H H' → Q (.bl (tr (NmV v))) H'
theorem ok_is_name (F : FunAt K mg "is_name" s_is_name ["thing"]) (Z : Bl mg) (G : Gs K mg) : DefE P w K mg base "is_name" 1 ["thing"] spIsName := by
 have SC := ze1
 obtain ⟨_, g_LETTERS, r_LETTERS⟩ := G.letters
 obtain ⟨_, g_LONGEST_NAME, r_LONGEST_NAME⟩ := G.longest
 refine F.mkE (k := 0) ze1 (fun vs H Q E h => ?_) (fun f cdv A outer s H vs Q E hr h => ?_)
 ·obtain ⟨v, rfl, _⟩ := h
  rfl
 ·obtain ⟨v, rfl, hv, q⟩ := h
  have fin : ∀ b, (b = true ↔ NmV v) → ∀ H', Same H H' → Q (.bl b) H' := fun b hb H' s => by
   have e : b = tr (NmV v) := by
    cases b
    ·rw [tr_no]; exact fun z => Bool.noConfusion (hb.mpr z)
    ·rw [tr_of (hb.mp rfl)]
   rw [e]; exact q H' s
  refine' ⟨_, ?derivation, ?_⟩
  case derivation =>
   refine' pss_cons ?ka ?kb
   case ka =>
    refine' ps_if ?kc ?kd pss_nil
    case kc =>
     refine' PW.pt ?ke
     case ke =>
      refine' pw_or ?kf ?kg
      case kf =>
       refine' pt_not ?kh
       case kh =>
        refine' pt_val ?ki ?kj
        case ki =>
         refine' pe_callB (hn := zd9) (hdb := zd8) ?kk ze4 Z.n_isinstance bt_isinstance ?kl rfl rfl
         case kk => exact (call_isiT (T := "str"))
         case kl =>
          refine' pa_cons ?km ?kn rfl
          case km => exact (pq 0 (visL ze7) zeq zer)
          case kn =>
           refine' pa_cons ?ko pa_nil rfl
           case ko =>
            refine' pe_bltn (v := V.ty "str") (hn := zep) (hd := zeo) ze6 Z.n_str bt_str ?kp
            case kp => exact rfl
        case kj => intro _; rfl
      case kg =>
       refine' pw_or1 ?kq
       case kq =>
        refine' pt_not ?kr
        case kr =>
         refine' pt_chain op_le op_le ?ks ?kt ?ku ?kv
         case ks => exact pe_int
         case kt =>
          refine' pe_callB (hn := zbw) (hdb := zbv) call_len_str ze5 Z.n_len bt_len ?kw rfl rfl
          case kw =>
           refine' pa_cons ?kx pa_nil rfl
           case kx => exact (pq 0 (visL ze7) zeq zer)
         case ku =>
          refine' pe_glob (hd := zdt) ze2 g_LONGEST_NAME r_LONGEST_NAME
         case kv => with_unfolding_all rfl
    case kd =>
     refine' pss_one ?ky
     case ky =>
      refine' ps_ret ?kz
      case kz => exact pe_bl
   case kb =>
    refine' pss_one ?kba
    case kba =>
     refine' ps_ret ?kbb
     case kbb =>
      refine' pe_callB (hn := zdz) (hdb := zdy) ?kbc ze3 Z.n_all bt_all ?kbd rfl rfl
      case kbc => exact (call_allB rfl)
      case kbd =>
       refine' pa_cons ?kbe pa_nil rfl
       case kbe =>
        refine' pe_compE framed_of ?kbf ?kbg ?kbh ?kbi ?kbj ?kbk
        case kbf => exact rfl
        case kbg => exact ze8.at
        case kbh =>
         refine' pi_str ?kbl
         case kbl => exact (pq 0 (visL ze7) zeq zer)
        case kbi =>
         intro _ _ _ _ _
         refine' pg_name (i := 0) ?kbm ?kbn ?kbo ?kbp
         case kbm => exact ze8.nd
         case kbn => exact rfl
         case kbo => exact (locO zfa)
         case kbp => exact (.inr (lookup_relabel_local zfa))
        case kbj =>
         intro _ _ _ _ _
         refine' pe_cmpR op_in_str ?kbq ?kbr ?kbs
         case kbq => exact (pq 0 (visO zfa) zem zen)
         case kbr =>
          refine' pe_glob (hd := zds) ?kbt g_LETTERS r_LETTERS
          case kbt => exact (glO ze9)
         case kbs => exact (by with_unfolding_all rfl)
        case kbk => intro _; rfl
  obtain ⟨ty, hty, hk⟩ := hv.isS (K := K)
  refine ⟨_, rfl, _, _, _, rfl, hty, hk, ?_⟩
  by_cases hs : isStr v = true
  ·obtain ⟨z, rfl⟩ := isStr.ex hs
   have hz := str_len z
   have hcs : z.cps.size = z.cps.toList.length := by simp
   refine ⟨true, rfl, iteF ?_⟩
   refine ⟨_, rfl, _, rfl, hv.len, _, _, rfl, rfl, _, rfl, ?_⟩
   by_cases h1 : 1 ≤ z.cps.toList.length
   ·refine ifT (decide_eq_true (by omega)) ?_
    refine ⟨_, _, rfl, rfl, _, rfl, ?_⟩
    by_cases h2 : z.cps.toList.length ≤ 12
    ·refine ifF (by simp; omega) ?_
     refine ⟨_, rfl, z, rfl, ?_⟩
     intro cl C ex s0 H0
     refine comp_it1 z.cps.size (fun i ys H1 => ys = ((z.cps.toList.take i).map let1).map V.bl ∧ H1 = H) (fun i x => ∃ c, z.cps[i]? = some c ∧ x = .str ⟨#[c]⟩) ⟨rfl, rfl⟩ (Nat.le_trans (show z.cps.size ≤ 12 by omega) (by decide)) (fun i ys H1 hi _ _ => go_str hi) (fun ys H1 _ _ => stop_str) ?_ ?_
     ·rintro i x ys H1 hi ⟨c, hc, rfl⟩ hy ⟨rfl, rfl⟩
      have hm : z.cps.toList[i]? = some c := by simpa using hc
      refine ⟨_, rfl, _, _, rfl, rfl, ?_, rfl⟩
      rw [List.take_succ, hm]
      show _ = List.map V.bl (List.map let1 (List.take i z.cps.toList ++ [c]))
      rw [List.map_append, List.map_append]
      rfl
     ·rintro ys H1 hy ⟨rfl, rfl⟩ D hD
      refine ⟨D, (z.cps.toList.take z.cps.size).map let1, rfl, SqL.of upd_same, fin _ ?_ _ (same_new hD _)⟩
      rw [List.take_of_length_le (by omega), nm_str, List.all_map, List.all_eq_true]
      exact ⟨fun h => ⟨h1, h2, h⟩, fun h => h.2.2⟩
    ·refine ifT (by simp; omega) ?_
     exact fin false ⟨fun z => Bool.noConfusion z, fun z => absurd (nm_str.mp z).2.1 h2⟩ _ (Same.refl _)
   ·refine ifF (by simp; omega) ?_
    exact ⟨false, rfl, iteT (fin false ⟨fun z => Bool.noConfusion z, fun z => absurd (nm_str.mp z).1 h1⟩ _ (Same.refl _))⟩
  ·have hs : isStr v = false := by simpa using hs
   refine ⟨false, by rw [hs], iteT ?_⟩
   refine fin false ⟨fun z => Bool.noConfusion z, fun ⟨z, e, _⟩ => ?_⟩ _ (Same.refl _)
   rw [e] at hs; cases hs
abbrev s_check_apart : Stmt := top 28
theorem zfb : FnScope ["names"] ["names"] (defScope s_check_apart) := ⟨rfl, rfl, rfl, by decide +kernel, rfl, by decide +kernel, by decide +kernel⟩
theorem zfc : (defScope s_check_apart).names.lookup (Str.ofString "NoSigns") = some NameKind.globalImplicit := by decide +kernel
theorem zfd : (defScope s_check_apart).names.lookup (Str.ofString "len") = some NameKind.globalImplicit := by decide +kernel
theorem zfe : (defScope s_check_apart).names.lookup (Str.ofString "names") = some NameKind.local := by decide +kernel
theorem zff : (defScope s_check_apart).names.lookup (Str.ofString "set") = some NameKind.globalImplicit := by decide +kernel
def spApart (C : Addr) : Sp := fun vs H Q E => ∃ (a : Addr) (ws : List Str), vs = [.ref a] ∧ LT H a (ws.map V.str) ∧ ws.length ≤ 1000 ∧ (ws.Nodup → ∀ H', Same H H' → Q .non H') ∧ (¬ ws.Nodup → ∀ H', Same H H' → E (.ref C) none H')
theorem ok_apart {C : Addr} (F : FunAt K mg "check_apart" s_check_apart ["names"]) (Z : Bl mg) (O_NoSigns : ExcCls K mg "NoSigns" C) : DefE P w K mg base "check_apart" 1 ["names"] (spApart C) := by
 have SC := zfb
 refine F.mkE (k := 0) zfb (fun vs H Q E h => ?_) (fun f cdv A outer s H vs Q E hr h => ?_)
 ·obtain ⟨a, ws, rfl, _⟩ := h
  rfl
 ·obtain ⟨a, ws, rfl, hL, hl, q, no⟩ := h
  refine' ⟨_, ?derivation, ?_⟩
  case derivation =>
   refine' pss_one ?ka
   case ka =>
    refine' ps_if ?kb ?kc pss_nil
    case kb =>
     refine' pt_cmpR op_ne ?kd ?ke ?kf
     case kd =>
      refine' pe_callB (hn := zbw) (hdb := zbv) call_lenT zfd Z.n_len bt_len ?kg rfl rfl
      case kg =>
       refine' pa_cons ?kh pa_nil rfl
       case kh =>
        refine' pe_callTy (hn := zel) (hdb := zek) ?ki zff Z.n_set bt_set ?kj rfl rfl
        case ki => exact (call_setT rfl)
        case kj =>
         refine' pa_cons ?kk pa_nil rfl
         case kk => exact (pq 0 (visL zfe) zeg zeh)
     case ke =>
      refine' pe_callB (hn := zbw) (hdb := zbv) call_len_seq zfd Z.n_len bt_len ?kl rfl rfl
      case kl =>
       refine' pa_cons ?km pa_nil rfl
       case km => exact (pq 0 (visL zfe) zeg zeh)
     case kf => exact (nomark _)
    case kc =>
     refine' pss_one ?kn
     case kn =>
      refine' ps_raise (hdb := zdw) framed_of ?ko ?kp zfc ?kq rfl rfl
      case ko => exact rfl
      case kp => exact O_NoSigns
      case kq =>
       refine' pa_cons ?kr pa_nil rfl
       case kr => exact pe_str
  refine ⟨_, rfl, a, ws, rfl, hL.sq, Nat.lt_of_le_of_lt (show ws.length + 1 ≤ 1001 by omega) (by decide), fun d hd => ?_⟩
  have st := same_new hd (SetT P w d ws)
  refine ⟨d, ws, rfl, upd_same, ?_⟩
  refine ⟨_, rfl, a, _, rfl, (hL.same st).sq, rfl, _, rfl, ?_⟩
  by_cases hnd : ws.Nodup
  ·have e : (ws.foldl stepS []).length = ws.length := by rw [foldS_nodup ws [] hnd (fun _ _ z => nomatch z)]; simp
   refine ifF ?_ (q hnd _ st)
   rw [e, List.length_map]
   simp
  ·have e : (ws.foldl stepS []).length ≠ ws.length := fun e => hnd (foldS_eq ws [] (by rw [e]; simp)).1
   refine ifT ?_ ⟨by show 1 ≤ sizeLine; decide, no hnd _ st⟩
   rw [List.length_map]
   simp; omega
abbrev s_checked_kinds : Stmt := top 22
theorem zfg : FnScope ["kinds", "kind"] ["kinds"] (defScope s_checked_kinds) := ⟨rfl, rfl, rfl, by decide +kernel, rfl, by decide +kernel, by decide +kernel⟩
theorem zfh : (defScope s_checked_kinds).names.lookup (Str.ofString "MOST_KINDS") = some NameKind.globalImplicit := by decide +kernel
theorem zfi : (defScope s_checked_kinds).names.lookup (Str.ofString "NoSigns") = some NameKind.globalImplicit := by decide +kernel
theorem zfj : (defScope s_checked_kinds).names.lookup (Str.ofString "check_apart") = some NameKind.globalImplicit := by decide +kernel
theorem zfk : (defScope s_checked_kinds).names.lookup (Str.ofString "is_list") = some NameKind.globalImplicit := by decide +kernel
theorem zfl : (defScope s_checked_kinds).names.lookup (Str.ofString "is_name") = some NameKind.globalImplicit := by decide +kernel
theorem zfm : (defScope s_checked_kinds).names.lookup (Str.ofString "kind") = some NameKind.local := by decide +kernel
theorem zfn : (defScope s_checked_kinds).names.lookup (Str.ofString "kinds") = some NameKind.local := by decide +kernel
theorem zfo : (defScope s_checked_kinds).names.lookup (Str.ofString "len") = some NameKind.globalImplicit := by decide +kernel
theorem zfp : (defScope s_checked_kinds).names.lookup (Str.ofString "tuple") = some NameKind.globalImplicit := by decide +kernel
def spKinds (C : Addr) : Sp := fun vs H Q E => ∃ v, vs = [v] ∧ Dat 1 H v ∧ (∀ ks, KindsV H v ks → ∀ t H', H' t = some (.tup (ks.map V.str)) → Same H H' → Q (.ref t) H') ∧ ((∀ ks, ¬ KindsV H v ks) → ∀ H', Same H H' → E (.ref C) none H')
theorem ok_kinds {C : Addr} (F : FunAt K mg "checked_kinds" s_checked_kinds ["kinds"]) (Z : Bl mg) (G : Gs K mg) (O_NoSigns : ExcCls K mg "NoSigns" C) (D_is_list : DefE P w K mg base "is_list" 1 ["thing"] spIsList) (D_is_name : DefE P w K mg base "is_name" 1 ["thing"] spIsName) (D_check_apart : DefE P w K mg base "check_apart" 1 ["names"] (spApart C)) :
  DefE P w K mg base "checked_kinds" 2 ["kinds"] (spKinds C) := by
 have SC := zfg
 obtain ⟨_, g_MOST_KINDS, r_MOST_KINDS⟩ := G.mkinds
 refine F.mkE (k := 1) zfg (fun vs H Q E h => ?_) (fun f cdv A outer s H vs Q E hr h => ?_)
 ·obtain ⟨v, rfl, _⟩ := h
  rfl
 ·obtain ⟨v, rfl, hd, q, no⟩ := h
  have one : 1 ≤ sizeLine := by decide
  refine' ⟨_, ?derivation, ?_⟩
  case derivation =>
   refine' pss_cons ?ka ?kb
   case ka =>
    refine' ps_if ?kc ?kd pss_nil
    case kc =>
     refine' PW.pt ?ke
     case ke =>
      refine' pw_or ?kf ?kg
      case kf =>
       refine' pt_not ?kh
       case kh =>
        refine' pt_val ?ki ?kj
        case ki =>
         refine' pe_defE (hdb := zd6) framed_of D_is_list ?kk zfk ?kl rfl rfl
         case kk => exact (hr.mono (by decide))
         case kl =>
          refine' pa_cons ?km pa_nil rfl
          case km => exact (pq 0 (visL zfn) zec zed)
        case kj => intro _; rfl
      case kg =>
       refine' pw_or1 ?kn
       case kn =>
        refine' pt_not ?ko
        case ko =>
         refine' pt_chain op_le op_le ?kp ?kq ?kr ?ks
         case kp => exact pe_int
         case kq =>
          refine' pe_callB (hn := zbw) (hdb := zbv) call_len_seq zfo Z.n_len bt_len ?kt rfl rfl
          case kt =>
           refine' pa_cons ?ku pa_nil rfl
           case ku => exact (pq 0 (visL zfn) zec zed)
         case kr =>
          refine' pe_glob (hd := zdu) zfh g_MOST_KINDS r_MOST_KINDS
         case ks => with_unfolding_all rfl
    case kd =>
     refine' pss_one ?kv
     case kv =>
      refine' ps_raise (hdb := zdw) framed_of ?kw ?kx zfi ?ky rfl rfl
      case kw => exact rfl
      case kx => exact O_NoSigns
      case ky =>
       refine' pa_cons ?kz pa_nil rfl
       case kz => exact pe_str
   case kb =>
    refine' pss_cons ?kba ?kbb
    case kba =>
     refine' ps_for ?kbc ?kbd ?kbe ?kbf ?kbg ?kbh
     case kbc => exact passes_xe
     case kbd => exact rfl
     case kbe =>
      refine' pi_seq ?kbi
      case kbi => exact (pq 0 (visL zfn) zec zed)
     case kbf =>
      refine' pg_name (i := 1) (x := Str.ofString "kind") ?kbj ?kbk ?kbl ?kbm
      case kbj => exact SC.nd
      case kbk => exact rfl
      case kbl => exact (Or.inl zfm)
      case kbm => exact (.inl rfl)
     case kbg =>
      refine' pss_one ?kbn
      case kbn =>
       refine' ps_if ?kbo ?kbp pss_nil
       case kbo =>
        refine' pt_not ?kbq
        case kbq =>
         refine' pt_val ?kbr ?kbs
         case kbr =>
          refine' pe_defE (hdb := zd7) framed_of D_is_name ?kbt zfl ?kbu rfl rfl
          case kbt => exact (hr.mono (by decide))
          case kbu =>
           refine' pa_cons ?kbv pa_nil rfl
           case kbv => exact (pq 1 (visL zfm) zea zeb)
         case kbs => intro _; rfl
       case kbp =>
        refine' pss_one ?kbw
        case kbw =>
         refine' ps_raise (hdb := zdw) framed_of ?kbx ?kby zfi ?kbz rfl rfl
         case kbx => exact rfl
         case kby => exact O_NoSigns
         case kbz =>
          refine' pa_cons ?kca pa_nil rfl
          case kca => exact pe_str
     case kbh => intro _; rfl
    case kbb =>
     refine' pss_cons ?kcb ?kcc
     case kcb =>
      refine' ps_expr ?kcd rfl
      case kcd =>
       refine' pe_defE (hdb := zd0) framed_of D_check_apart ?kce zfj ?kcf rfl rfl
       case kce => exact (hr.mono (by decide))
       case kcf =>
        refine' pa_cons ?kcg pa_nil rfl
        case kcg => exact (pq 0 (visL zfn) zec zed)
     case kcc =>
      refine' pss_one ?kch
      case kch =>
       refine' ps_ret ?kci
       case kci =>
        refine' pe_callTy (hn := zev) (hdb := zeu) call_tuple_of zfp Z.n_tuple bt_tuple ?kcj rfl rfl
        case kcj =>
         refine' pa_cons ?kck pa_nil rfl
         case kck => exact (pq 0 (visL zfn) zec zed)
  refine ⟨_, rfl, v, rfl, hd.1, fun H1 s1 => ?_⟩
  cases hrow : rowOf H v with
  | none => exact ⟨false, rfl, iteT ⟨one, no (fun ks z => by rw [z.1] at hrow; cases hrow) _ s1⟩⟩
  | some xs =>
   refine ⟨true, rfl, iteF ?_⟩
   obtain ⟨a, rfl, hL⟩ := rowOf.lt hrow
   have bad : ¬ (1 ≤ xs.length ∧ xs.length ≤ 4) → ∀ H', Same H H' → E (.ref C) none H' := fun hb => no fun ks z => hb (by
    have e := z.1; rw [hrow] at e; cases e
    rw [List.length_map]; exact ⟨z.2.k1, z.2.k4⟩)
   refine ⟨_, rfl, a, _, rfl, (hL.same s1).sq, _, _, rfl, rfl, _, rfl, ?_⟩
   by_cases k1 : 1 ≤ xs.length
   ·refine ifT (decide_eq_true (by omega)) ?_
    refine ⟨_, _, rfl, rfl, _, rfl, ?_⟩
    by_cases k4 : xs.length ≤ 4
    ·refine ifF (by simp; omega) ?_
     refine (hL.same s1).over rfl fun J O => O.loop (fun j σ H2 => ∃ u, σ = [some (.ref a), u] ∧ Same H1 H2 ∧ ∀ x ∈ xs.take j, NmV x) ⟨_, rfl, Same.refl _, fun _ z => by simp at z⟩ (fun j σ H2 _ ⟨_, _, z, _⟩ o e => z a o e) ?_ ?_
     ·rintro i x σ H2 hi ⟨u, rfl, s2, hn⟩
      have hx : Sh H x := hd.2 xs hrow x (List.mem_of_getElem? hi)
      refine ⟨_, rfl, x, rfl, hx.same (s1.trans s2), fun H3 s3 => ?_⟩
      by_cases hb : NmV x
      ·refine ⟨true, by rw [tr_of hb], iteF ⟨_, rfl, s2.trans s3, fun y hy => ?_⟩⟩
       rw [List.take_succ, hi] at hy
       rcases List.mem_append.mp hy with z | z
       ·exact hn y z
       ·have e : y = x := List.mem_singleton.mp z
        rw [e]; exact hb
      ·refine ⟨false, by rw [tr_no hb], iteT ⟨one, no (fun ks z => hb ?_) _ ((s1.trans s2).trans s3)⟩⟩
       have e := z.1; rw [hrow] at e; cases e
       rw [List.getElem?_map] at hi
       obtain ⟨k, hk, rfl⟩ := Option.map_eq_some_iff.mp hi
       exact ⟨k, rfl, z.2.kn2 k (List.mem_of_getElem? hk)⟩
     ·rintro σ H2 ⟨u, rfl, s2, hn⟩
      rw [List.take_length] at hn
      obtain ⟨ks, rfl, hk⟩ := strs_of hn
      rw [List.length_map] at k1 k4
      refine ⟨_, rfl, a, ks, rfl, (hL.same s1).same s2, by omega, fun hnd H3 s3 => ?_, fun hnd H3 s3 => no (fun ks' z => hnd ?_) _ ((s1.trans s2).trans s3)⟩
      ·have s03 := (s1.trans s2).trans s3
       have kv : KindsV H (.ref a) ks := ⟨hrow, hnd, k1, k4, hk⟩
       refine ⟨_, rfl, a, ks.map V.str, rfl, ?_⟩
       rcases hL.same s03 with e | e
       ·exact .inl ⟨SqL.of e, fun l hl => q ks kv l _ upd_same (s03.trans (same_new hl _))⟩
       ·exact .inr ⟨SqT.of e, q ks kv a _ e s03⟩
      ·have e := z.1; rw [hrow] at e
       have e2 : ks = ks' := strs_inj (Option.some.inj e)
       rw [e2]; exact z.2.kn
    ·refine ifT (by simp; omega) ⟨one, bad (fun z => k4 z.2) _ s1⟩
   ·refine ifF (by simp; omega) ⟨false, rfl, iteT ⟨one, bad (fun z => k1 z.1) _ s1⟩⟩
abbrev s_checked_kind : Stmt := top 27
theorem zfq : FnScope ["kinds", "kind"] ["kinds", "kind"] (defScope s_checked_kind) := ⟨rfl, rfl, rfl, by decide +kernel, rfl, by decide +kernel, by decide +kernel⟩
theorem zfr : (defScope s_checked_kind).names.lookup (Str.ofString "NoSigns") = some NameKind.globalImplicit := by decide +kernel
theorem zfs : (defScope s_checked_kind).names.lookup (Str.ofString "is_name") = some NameKind.globalImplicit := by decide +kernel
theorem zft : (defScope s_checked_kind).names.lookup (Str.ofString "kind") = some NameKind.local := by decide +kernel
theorem zfu : (defScope s_checked_kind).names.lookup (Str.ofString "kinds") = some NameKind.local := by decide +kernel
def spKind (C : Addr) : Sp := fun vs H Q E => ∃ (a : Addr) (ks : List Str) (v : V), vs = [.ref a, v] ∧ LT H a (ks.map V.str) ∧ Sh H v ∧ (∀ k, KindV ks v k → ∀ H', Same H H' → Q (.str k) H') ∧ ((∀ k, ¬ KindV ks v k) → ∀ H', Same H H' → E (.ref C) none H')
theorem ok_kind {C : Addr} (F : FunAt K mg "checked_kind" s_checked_kind ["kinds", "kind"]) (Z : Bl mg) (O_NoSigns : ExcCls K mg "NoSigns" C) (D_is_name : DefE P w K mg base "is_name" 1 ["thing"] spIsName) : DefE P w K mg base "checked_kind" 2 ["kinds", "kind"] (spKind C) := by
 have SC := zfq
 refine F.mkE (k := 1) zfq (fun vs H Q E h => ?_) (fun f cdv A outer s H vs Q E hr h => ?_)
 ·obtain ⟨a, ks, v, rfl, _⟩ := h
  rfl
 ·obtain ⟨a, ks, v, rfl, hL, hv, q, no⟩ := h
  have one : 1 ≤ sizeLine := by decide
  refine' ⟨_, ?derivation, ?_⟩
  case derivation =>
   refine' pss_cons ?ka ?kb
   case ka =>
    refine' ps_if ?kc ?kd pss_nil
    case kc =>
     refine' PW.pt ?ke
     case ke =>
      refine' pw_or ?kf ?kg
      case kf =>
       refine' pt_not ?kh
       case kh =>
        refine' pt_val ?ki ?kj
        case ki =>
         refine' pe_defE (hdb := zd7) framed_of D_is_name ?kk zfs ?kl rfl rfl
         case kk => exact (hr.mono (by decide))
         case kl =>
          refine' pa_cons ?km pa_nil rfl
          case km => exact (pq 1 (visL zft) zea zeb)
        case kj => intro _; rfl
      case kg =>
       refine' pw_or1 ?kn
       case kn =>
        refine' pt_cmpR op_notIn_seq ?ko ?kp ?kq
        case ko => exact (pq 1 (visL zft) zea zeb)
        case kp => exact (pq 0 (visL zfu) zec zed)
        case kq => exact (by with_unfolding_all rfl)
    case kd =>
     refine' pss_one ?kr
     case kr =>
      refine' ps_raise (hdb := zdw) framed_of ?ks ?kt zfr ?ku rfl rfl
      case ks => exact rfl
      case kt => exact O_NoSigns
      case ku =>
       refine' pa_cons ?kv pa_nil rfl
       case kv => exact pe_str
   case kb =>
    refine' pss_one ?kw
    case kw =>
     refine' ps_ret ?kx
     case kx => exact (pq 1 (visL zft) zea zeb)
  refine ⟨_, rfl, v, rfl, hv, fun H1 s1 => ?_⟩
  by_cases hb : NmV v
  ·obtain ⟨k, rfl, hn⟩ := hb
   refine ⟨true, by rw [tr_of (nm_str.mpr hn)], iteF ?_⟩
   refine ⟨_, rfl, _, rfl, a, _, rfl, (hL.same s1).sq, rfl, flat_strs ks, _, rfl, ?_⟩
   rw [inV_strs]
   by_cases hk : k ∈ ks
   ·rw [decide_eq_true hk]
    exact iteF ⟨_, rfl, q k ⟨rfl, hn, hk⟩ _ s1⟩
   ·rw [decide_eq_false hk]
    exact iteT ⟨one, no (fun k' z => by cases z.1; exact hk z.2.2) _ s1⟩
  ·exact ⟨false, by rw [tr_no hb], iteT ⟨one, no (fun k z => hb ⟨k, z.1, z.2.1⟩) _ s1⟩⟩
abbrev s_checked_places : Stmt := top 26
theorem zfv : FnScope ["kinds", "places"] ["kinds", "places"] (defScope s_checked_places) := ⟨rfl, rfl, rfl, by decide +kernel, rfl, by decide +kernel, by decide +kernel⟩
theorem zfw : (defScope s_checked_places).names.lookup (Str.ofString "MOST_PLACES") = some NameKind.globalImplicit := by decide +kernel
theorem zfx : (defScope s_checked_places).names.lookup (Str.ofString "NoSigns") = some NameKind.globalImplicit := by decide +kernel
theorem zfy : (defScope s_checked_places).names.lookup (Str.ofString "is_list") = some NameKind.globalImplicit := by decide +kernel
theorem zfz : (defScope s_checked_places).names.lookup (Str.ofString "len") = some NameKind.globalImplicit := by decide +kernel
theorem zf0 : (defScope s_checked_places).names.lookup (Str.ofString "places") = some NameKind.local := by decide +kernel
theorem zf1 : (defScope s_checked_places).names.lookup (Str.ofString "tuple") = some NameKind.globalImplicit := by decide +kernel
theorem zf2 : CompSc 1 ["kind", "kinds", "places"] ["kinds", "places"] (defScope s_checked_places) { kind := PySem.ScopeKind.function, names := [ (PySem.Str.ofString ".0", PySem.NameKind.local), (PySem.Str.ofString "kind", PySem.NameKind.local), (PySem.Str.ofString "checked_kind", PySem.NameKind.globalImplicit), (PySem.Str.ofString "kinds", PySem.NameKind.free)], isGenerator := false, isCoroutine := false, more := [] : PySem.Scope } := ⟨rfl, by decide +kernel, by decide +kernel, by decide +kernel, by decide +kernel, rfl, by decide +kernel⟩
theorem zf3 : ({ kind := PySem.ScopeKind.function, names := [ (PySem.Str.ofString ".0", PySem.NameKind.local), (PySem.Str.ofString "kind", PySem.NameKind.local), (PySem.Str.ofString "checked_kind", PySem.NameKind.globalImplicit), (PySem.Str.ofString "kinds", PySem.NameKind.free)], isGenerator := false, isCoroutine := false, more := [] : PySem.Scope } : Scope).names.lookup (Str.ofString "checked_kind") = some NameKind.globalImplicit := by decide +kernel
theorem zf4 : ({ kind := PySem.ScopeKind.function, names := [ (PySem.Str.ofString ".0", PySem.NameKind.local), (PySem.Str.ofString "kind", PySem.NameKind.local), (PySem.Str.ofString "checked_kind", PySem.NameKind.globalImplicit), (PySem.Str.ofString "kinds", PySem.NameKind.free)], isGenerator := false, isCoroutine := false, more := [] : PySem.Scope } : Scope).names.lookup (Str.ofString "kind") = some NameKind.local := by decide +kernel
theorem zf5 : ({ kind := PySem.ScopeKind.function, names := [ (PySem.Str.ofString ".0", PySem.NameKind.local), (PySem.Str.ofString "kind", PySem.NameKind.local), (PySem.Str.ofString "checked_kind", PySem.NameKind.globalImplicit), (PySem.Str.ofString "kinds", PySem.NameKind.free)], isGenerator := false, isCoroutine := false, more := [] : PySem.Scope } : Scope).names.lookup (Str.ofString "kinds") = some NameKind.free := by decide +kernel
def spPlaces (C : Addr) : Sp := fun vs H Q E => ∃ (a : Addr) (ks : List Str) (v : V), vs = [.ref a, v] ∧ LT H a (ks.map V.str) ∧ Dat 1 H v ∧ (∀ ps, PlcV H ks v ps → ∀ t H', H' t = some (.tup (ps.map V.str)) → Same H H' → Q (.ref t) H') ∧ ((∀ ps, ¬ PlcV H ks v ps) → ∀ H', Same H H' → E (.ref C) none H')
theorem ok_places {C : Addr} (F : FunAt K mg "checked_places" s_checked_places ["kinds", "places"]) (Z : Bl mg) (G : Gs K mg) (O_NoSigns : ExcCls K mg "NoSigns" C) (D_is_list : DefE P w K mg base "is_list" 1 ["thing"] spIsList) (D_checked_kind : DefE P w K mg base "checked_kind" 2 ["kinds", "kind"] (spKind C)) :
  DefE P w K mg base "checked_places" 3 ["kinds", "places"] (spPlaces C) := by
 have SC := zfv
 obtain ⟨_, g_MOST_PLACES, r_MOST_PLACES⟩ := G.mplaces
 refine F.mkE (k := 2) zfv (fun vs H Q E h => ?_) (fun f cdv A outer s H vs Q E hr h => ?_)
 ·obtain ⟨a, ks, v, rfl, _⟩ := h
  rfl
 ·obtain ⟨a, ks, v, rfl, hA, hd, q, no⟩ := h
  have one : 1 ≤ sizeLine := by decide
  refine' ⟨_, ?derivation, ?_⟩
  case derivation =>
   refine' pss_cons ?ka ?kb
   case ka =>
    refine' ps_if ?kc ?kd pss_nil
    case kc =>
     refine' PW.pt ?ke
     case ke =>
      refine' pw_or ?kf ?kg
      case kf =>
       refine' pt_not ?kh
       case kh =>
        refine' pt_val ?ki ?kj
        case ki =>
         refine' pe_defE (hdb := zd6) framed_of D_is_list ?kk zfy ?kl rfl rfl
         case kk => exact (hr.mono (by decide))
         case kl =>
          refine' pa_cons ?km pa_nil rfl
          case km => exact (pq 1 (visL zf0) zei zej)
        case kj => intro _; rfl
      case kg =>
       refine' pw_or1 ?kn
       case kn =>
        refine' pt_cmpR op_gt ?ko ?kp ?kq
        case ko =>
         refine' pe_callB (hn := zbw) (hdb := zbv) call_len_seq zfz Z.n_len bt_len ?kr rfl rfl
         case kr =>
          refine' pa_cons ?ks pa_nil rfl
          case ks => exact (pq 1 (visL zf0) zei zej)
        case kp =>
         refine' pe_glob (hd := zdv) zfw g_MOST_PLACES r_MOST_PLACES
        case kq => exact (nomark _)
    case kd =>
     refine' pss_one ?kt
     case kt =>
      refine' ps_raise (hdb := zdw) framed_of ?ku ?kv zfx ?kw rfl rfl
      case ku => exact rfl
      case kv => exact O_NoSigns
      case kw =>
       refine' pa_cons ?kx pa_nil rfl
       case kx => exact pe_str
   case kb =>
    refine' pss_one ?ky
    case ky =>
     refine' ps_ret ?kz
     case kz =>
      refine' pe_callTy (hn := zev) (hdb := zeu) call_tuple_of zf1 Z.n_tuple bt_tuple ?kba rfl rfl
      case kba =>
       refine' pa_cons ?kbb pa_nil rfl
       case kbb =>
        refine' pe_compE framed_of ?kbc ?kbd ?kbe ?kbf ?kbg ?kbh
        case kbc => exact rfl
        case kbd => exact zf2.at
        case kbe =>
         refine' pi_seq ?kbi
         case kbi => exact (pq 1 (visL zf0) zei zej)
        case kbf =>
         intro _ _ _ _ _
         refine' pg_name (i := 0) ?kbj ?kbk ?kbl ?kbm
         case kbj => exact zf2.nd
         case kbk => exact rfl
         case kbl => exact (locO zf4)
         case kbm => exact (.inr (lookup_relabel_local zf4))
        case kbg =>
         intro _ _ _ _ _
         refine' pe_defE (hdb := zd1) ?kbn D_checked_kind ?kbo ?kbp ?kbq rfl rfl
         case kbn => exact (framed_comp framed_of)
         case kbo => exact (hr.mono (by decide))
         case kbp => exact (glO zf3)
         case kbq =>
          refine' pa_cons ?kbr ?kbs rfl
          case kbr => exact (pq 1 (visF zf5) zec zed)
          case kbs =>
           refine' pa_cons ?kbt pa_nil rfl
           case kbt => exact (pq 0 (visO zf4) zea zeb)
        case kbh => intro _; rfl
  refine ⟨_, rfl, v, rfl, hd.1, fun H1 s1 => ?_⟩
  cases hrow : rowOf H v with
  | none => exact ⟨false, rfl, iteT ⟨one, no (fun ks z => by rw [z.1] at hrow; cases hrow) _ s1⟩⟩
  | some xs =>
   refine ⟨true, rfl, iteF ?_⟩
   obtain ⟨b, rfl, hB⟩ := rowOf.lt hrow
   refine ⟨_, rfl, b, _, rfl, (hB.same s1).sq, _, _, rfl, rfl, _, rfl, ?_⟩
   by_cases k2 : xs.length ≤ 2
   ·refine ifF (by simp; omega) ?_
    refine (hB.same s1).over rfl fun J O => ?_
    intro cl C1 ex s0 H0
    refine O.comp (fun i ys H2 => ∃ ps, ys = List.map V.str ps ∧ xs.take i = ys ∧ (∀ k ∈ ps, isN k ∧ k ∈ ks) ∧ Same H1 H2) ⟨[], rfl, by simp, (fun _ z => nomatch z), Same.refl _⟩ (Nat.le_trans k2 (by decide)) (fun i ys H2 _ ⟨_, _, _, _, z⟩ o e => z b o e) ?_ ?_
    ·rintro i x ys H2 hi hy ⟨ps, rfl, hp, hk, s2⟩
     have hx : Sh H x := hd.2 xs hrow x (List.mem_of_getElem? hi)
     refine ⟨_, rfl, _, rfl, a, ks, x, rfl, (hA.same s1).same s2, hx.same (s1.trans s2), fun k kv H3 s3 => ?_, fun kn H3 s3 => no (fun ps' z => ?_) _ ((s1.trans s2).trans s3)⟩
     ·obtain ⟨rfl, k1, k3⟩ := kv
      refine ⟨ps ++ [k], by rw [List.map_append]; rfl, by rw [List.take_succ, hi, hp]; rfl, fun j hj => ?_, s2.trans s3⟩
      rcases List.mem_append.mp hj with z | z
      ·exact hk j z
      ·rw [List.mem_singleton.mp z]; exact ⟨k1, k3⟩
     ·have e := z.1; rw [hrow] at e; cases e
      rw [List.getElem?_map] at hi
      obtain ⟨k, hk, rfl⟩ := Option.map_eq_some_iff.mp hi
      have := z.2.2 k (List.mem_of_getElem? hk)
      exact kn k ⟨rfl, this.1, this.2⟩
    ·rintro ys H2 hy ⟨ps, rfl, hp, hk, s2⟩ D hD
     rw [List.take_length] at hp
     subst hp
     rw [List.length_map] at k2
     refine ⟨D, _, rfl, .inl ⟨SqL.of upd_same, fun t ht => ?_⟩⟩
     exact q ps ⟨hrow, k2, hk⟩ t _ upd_same ((s1.trans s2).trans ((same_new hD _).trans (same_new ht _)))
   ·refine ifT (by simp; omega) ⟨one, no (fun ps z => k2 ?_) _ s1⟩
    have e := z.1; rw [hrow] at e; cases e
    rw [List.length_map]; exact z.2.1
abbrev s_checked_sign_name : Stmt := top 25
theorem zf6 : FnScope ["name"] ["name"] (defScope s_checked_sign_name) := ⟨rfl, rfl, rfl, by decide +kernel, rfl, by decide +kernel, by decide +kernel⟩
theorem zf7 : (defScope s_checked_sign_name).names.lookup (Str.ofString "NoSigns") = some NameKind.globalImplicit := by decide +kernel
theorem zf8 : (defScope s_checked_sign_name).names.lookup (Str.ofString "WORDS_OF_SAYINGS") = some NameKind.globalImplicit := by decide +kernel
theorem zf9 : (defScope s_checked_sign_name).names.lookup (Str.ofString "is_name") = some NameKind.globalImplicit := by decide +kernel
theorem zga : (defScope s_checked_sign_name).names.lookup (Str.ofString "name") = some NameKind.local := by decide +kernel
def spSignName (C : Addr) : Sp := fun vs H Q E => ∃ (v : V), vs = [v] ∧ Sh H v ∧ (∀ k, SgnV v k → ∀ H', Same H H' → Q (.str k) H') ∧ ((∀ k, ¬ SgnV v k) → ∀ H', Same H H' → E (.ref C) none H')
theorem ok_sign_name {C : Addr} (F : FunAt K mg "checked_sign_name" s_checked_sign_name ["name"]) (Z : Bl mg) (G : Gs K mg) (O_NoSigns : ExcCls K mg "NoSigns" C) (D_is_name : DefE P w K mg base "is_name" 1 ["thing"] spIsName) : DefE P w K mg base "checked_sign_name" 2 ["name"] (spSignName C) := by
 have SC := zf6
 obtain ⟨wa, g_WORDS_OF_SAYINGS, hW⟩ := G.words
 have r_WORDS_OF_SAYINGS : RelV (.ref wa) (.ref wa) := rfl
 refine F.mkE (k := 1) zf6 (fun vs H Q E h => ?_) (fun f cdv A outer s H vs Q E hr h => ?_)
 ·obtain ⟨v, rfl, _⟩ := h
  rfl
 ·obtain ⟨v, rfl, hv, q, no⟩ := h
  have one : 1 ≤ sizeLine := by decide
  refine' ⟨_, ?derivation, ?_⟩
  case derivation =>
   refine' pss_cons ?ka ?kb
   case ka =>
    refine' ps_if ?kc ?kd pss_nil
    case kc =>
     refine' PW.pt ?ke
     case ke =>
      refine' pw_or ?kf ?kg
      case kf =>
       refine' pt_not ?kh
       case kh =>
        refine' pt_val ?ki ?kj
        case ki =>
         refine' pe_defE (hdb := zd7) framed_of D_is_name ?kk zf9 ?kl rfl rfl
         case kk => exact (hr.mono (by decide))
         case kl =>
          refine' pa_cons ?km pa_nil rfl
          case km => exact (pq 0 (visL zga) zee zef)
        case kj => intro _; rfl
      case kg =>
       refine' pw_or1 ?kn
       case kn =>
        refine' pt_cmpR op_in_seq ?ko ?kp ?kq
        case ko => exact (pq 0 (visL zga) zee zef)
        case kp =>
         refine' pe_glob (hd := zdx) zf8 g_WORDS_OF_SAYINGS r_WORDS_OF_SAYINGS
        case kq => exact (by with_unfolding_all rfl)
    case kd =>
     refine' pss_one ?kr
     case kr =>
      refine' ps_raise (hdb := zdw) framed_of ?ks ?kt zf7 ?ku rfl rfl
      case ks => exact rfl
      case kt => exact O_NoSigns
      case ku =>
       refine' pa_cons ?kv pa_nil rfl
       case kv => exact pe_str
   case kb =>
    refine' pss_one ?kw
    case kw =>
     refine' ps_ret ?kx
     case kx => exact (pq 0 (visL zga) zee zef)
  refine ⟨_, rfl, v, rfl, hv, fun H1 s1 => ?_⟩
  by_cases hb : NmV v
  ·obtain ⟨k, rfl, hn⟩ := hb
   refine ⟨true, by rw [tr_of (nm_str.mpr hn)], iteF ?_⟩
   refine ⟨_, rfl, wa, _, rfl, .inr (hW _), rfl, flat_strs sayWords, _, rfl, ?_⟩
   rw [inV_strs]
   by_cases hk : k ∈ sayWords
   ·rw [decide_eq_true hk]
    exact iteT ⟨one, no (fun k' z => by cases z.1; exact z.2.2 hk) _ s1⟩
   ·rw [decide_eq_false hk]
    exact iteF ⟨_, rfl, q k ⟨rfl, hn, hk⟩ _ s1⟩
  ·exact ⟨false, by rw [tr_no hb], iteT ⟨one, no (fun k z => hb ⟨k, z.1, z.2.1⟩) _ s1⟩⟩
abbrev s_checked_tie : Stmt := top 23
theorem zgb : FnScope ["kinds", "tie", "name", "places"] ["kinds", "tie"] (defScope s_checked_tie) := ⟨rfl, rfl, rfl, by decide +kernel, rfl, by decide +kernel, by decide +kernel⟩
theorem zgc : (defScope s_checked_tie).names.lookup (Str.ofString "NoSigns") = some NameKind.globalImplicit := by decide +kernel
theorem zgd : (defScope s_checked_tie).names.lookup (Str.ofString "checked_places") = some NameKind.globalImplicit := by decide +kernel
theorem zge : (defScope s_checked_tie).names.lookup (Str.ofString "checked_sign_name") = some NameKind.globalImplicit := by decide +kernel
theorem zgf : (defScope s_checked_tie).names.lookup (Str.ofString "is_list") = some NameKind.globalImplicit := by decide +kernel
theorem zgg : (defScope s_checked_tie).names.lookup (Str.ofString "kinds") = some NameKind.local := by decide +kernel
theorem zgh : (defScope s_checked_tie).names.lookup (Str.ofString "len") = some NameKind.globalImplicit := by decide +kernel
theorem zgi : (defScope s_checked_tie).names.lookup (Str.ofString "name") = some NameKind.local := by decide +kernel
theorem zgj : (defScope s_checked_tie).names.lookup (Str.ofString "places") = some NameKind.local := by decide +kernel
theorem zgk : (defScope s_checked_tie).names.lookup (Str.ofString "tie") = some NameKind.local := by decide +kernel
def spTie (C : Addr) : Sp := fun vs H Q E => ∃ (a : Addr) (ks : List Str) (v : V), vs = [.ref a, v] ∧ LT H a (ks.map V.str) ∧ Dat 2 H v ∧
 (∀ nm ps, TieV H ks v nm ps → ∀ t u H', H' t = some (.tup [.str nm, .ref u]) → H' u = some (.tup (ps.map V.str)) → Same H H' → Q (.ref t) H') ∧ ((∀ nm ps, ¬ TieV H ks v nm ps) → ∀ H', Same H H' → E (.ref C) none H')
theorem ok_tie {C : Addr} (F : FunAt K mg "checked_tie" s_checked_tie ["kinds", "tie"]) (Z : Bl mg) (O_NoSigns : ExcCls K mg "NoSigns" C) (D_is_list : DefE P w K mg base "is_list" 1 ["thing"] spIsList) (D_checked_sign_name : DefE P w K mg base "checked_sign_name" 2 ["name"] (spSignName C)) (D_checked_places : DefE P w K mg base "checked_places" 3 ["kinds", "places"] (spPlaces C)) :
  DefE P w K mg base "checked_tie" 4 ["kinds", "tie"] (spTie C) := by
 have SC := zgb
 refine F.mkE (k := 3) zgb (fun vs H Q E h => ?_) (fun f cdv A outer s H vs Q E hr h => ?_)
 ·obtain ⟨a, ks, v, rfl, _⟩ := h
  rfl
 ·obtain ⟨a, ks, v, rfl, hA, hd, q, no⟩ := h
  have one : 1 ≤ sizeLine := by decide
  refine' ⟨_, ?derivation, ?_⟩
  case derivation =>
   refine' pss_cons ?ka ?kb
   case ka =>
    refine' ps_if ?kc ?kd pss_nil
    case kc =>
     refine' PW.pt ?ke
     case ke =>
      refine' pw_or ?kf ?kg
      case kf =>
       refine' pt_not ?kh
       case kh =>
        refine' pt_val ?ki ?kj
        case ki =>
         refine' pe_defE (hdb := zd6) framed_of D_is_list ?kk zgf ?kl rfl rfl
         case kk => exact (hr.mono (by decide))
         case kl =>
          refine' pa_cons ?km pa_nil rfl
          case km => exact (pq 1 (visL zgk) zes zet)
        case kj => intro _; rfl
      case kg =>
       refine' pw_or1 ?kn
       case kn =>
        refine' pt_cmpR op_ne ?ko ?kp ?kq
        case ko =>
         refine' pe_callB (hn := zbw) (hdb := zbv) call_len_seq zgh Z.n_len bt_len ?kr rfl rfl
         case kr =>
          refine' pa_cons ?ks pa_nil rfl
          case ks => exact (pq 1 (visL zgk) zes zet)
        case kp => exact pe_int
        case kq => exact (nomark _)
    case kd =>
     refine' pss_one ?kt
     case kt =>
      refine' ps_raise (hdb := zdw) framed_of ?ku ?kv zgc ?kw rfl rfl
      case ku => exact rfl
      case kv => exact O_NoSigns
      case kw =>
       refine' pa_cons ?kx pa_nil rfl
       case kx => exact pe_str
   case kb =>
    refine' pss_cons ?ky ?kz
    case ky =>
     refine' ps_asg ?kba ?kbb rfl rfl rfl
     case kba => exact (pq 1 (visL zgk) zes zet)
     case kbb =>
      refine' pg_seq ?kbc ?kbd rfl rfl
      case kbc => exact rfl
      case kbd =>
       refine' pgs_cons ?kbe ?kbf rfl
       case kbe =>
        refine' pg_name (i := 2) (x := Str.ofString "name") ?kbg ?kbh ?kbi ?kbj
        case kbg => exact SC.nd
        case kbh => exact rfl
        case kbi => exact (Or.inl zgi)
        case kbj => exact (.inl rfl)
       case kbf =>
        refine' pgs_cons ?kbk pgs_nil rfl
        case kbk =>
         refine' pg_name (i := 3) (x := Str.ofString "places") ?kbl ?kbm ?kbn ?kbo
         case kbl => exact SC.nd
         case kbm => exact rfl
         case kbn => exact (Or.inl zgj)
         case kbo => exact (.inl rfl)
    case kz =>
     refine' pss_one ?kbp
     case kbp =>
      refine' ps_ret ?kbq
      case kbq =>
       refine' pe_tup ?kbr
       case kbr =>
        refine' pa_cons ?kbs ?kbt rfl
        case kbs =>
         refine' pe_defE (hdb := zd3) framed_of D_checked_sign_name ?kbu zge ?kbv rfl rfl
         case kbu => exact (hr.mono (by decide))
         case kbv =>
          refine' pa_cons ?kbw pa_nil rfl
          case kbw => exact (pq 2 (visL zgi) zee zef)
        case kbt =>
         refine' pa_cons ?kbx pa_nil rfl
         case kbx =>
          refine' pe_defE (hdb := zd2) framed_of D_checked_places ?kby zgd ?kbz rfl rfl
          case kby => exact (hr.mono (by decide))
          case kbz =>
           refine' pa_cons ?kca ?kcb rfl
           case kca => exact (pq 0 (visL zgg) zec zed)
           case kcb =>
            refine' pa_cons ?kcc pa_nil rfl
            case kcc => exact (pq 3 (visL zgj) zei zej)
  refine ⟨_, rfl, v, rfl, hd.1, fun H1 s1 => ?_⟩
  cases hrow : rowOf H v with
  | none => exact ⟨false, rfl, iteT ⟨one, no (fun nm ps ⟨_, _, e, _⟩ => by rw [e] at hrow; cases hrow) _ s1⟩⟩
  | some xs =>
   refine ⟨true, rfl, iteF ?_⟩
   obtain ⟨b, rfl, hB⟩ := rowOf.lt hrow
   refine ⟨_, rfl, b, _, rfl, (hB.same s1).sq, rfl, _, rfl, ?_⟩
   by_cases k2 : xs.length = 2
   ·refine ifF (by simp; omega) ?_
    obtain ⟨x, y, rfl⟩ : ∃ x y, xs = [x, y] := by
     match xs, k2 with
     | [x, y], _ => exact ⟨x, y, rfl⟩
    refine ⟨_, rfl, b, _, rfl, (hB.same s1).sq, rfl, _, _, rfl, _, _, rfl, rfl, ?_⟩
    have hx := (hd.2 _ hrow x (by simp)).sh
    have hy := hd.2 _ hrow y (by simp)
    refine ⟨_, rfl, x, rfl, hx.same s1, fun nm hnm H2 s2 => ?_, fun hnm H2 s2 => no (fun nm ps ⟨_, _, e, h1, _⟩ => by rw [hrow] at e; cases e; exact hnm nm h1) _ (s1.trans s2)⟩
    have s02 := s1.trans s2
    have pv : ∀ ps, PlcV H2 ks y ps ↔ PlcV H ks y ps := fun ps => by unfold PlcV; rw [hy.sh.rows s02]
    refine ⟨_, rfl, _, rfl, a, ks, y, rfl, hA.same s02, hy.same s02, fun ps hps u H3 hu s3 => ?_, fun hps H3 s3 => no (fun nm ps ⟨_, _, e, _, h2⟩ => by rw [hrow] at e; cases e; exact hps ps ((pv ps).mpr h2)) _ (s02.trans s3)⟩
    refine ⟨by show 2 ≤ sizeLine; decide, fun t ht => ?_⟩
    exact q nm ps ⟨x, y, hrow, hnm, (pv ps).mp hps⟩ t u _ upd_same (same_new ht _ _ _ hu) ((s02.trans s3).trans (same_new ht _))
   ·refine ifT (by simp; omega) ⟨one, no (fun nm ps ⟨_, _, e, _⟩ => k2 (by rw [hrow] at e; cases e; rfl)) _ s1⟩
abbrev s_checked_function : Stmt := top 24
theorem zgl : FnScope ["kinds", "function", "name", "places", "kind"] ["kinds", "function"] (defScope s_checked_function) := ⟨rfl, rfl, rfl, by decide +kernel, rfl, by decide +kernel, by decide +kernel⟩
theorem zgm : (defScope s_checked_function).names.lookup (Str.ofString "NoSigns") = some NameKind.globalImplicit := by decide +kernel
theorem zgn : (defScope s_checked_function).names.lookup (Str.ofString "checked_kind") = some NameKind.globalImplicit := by decide +kernel
theorem zgo : (defScope s_checked_function).names.lookup (Str.ofString "checked_places") = some NameKind.globalImplicit := by decide +kernel
theorem zgp : (defScope s_checked_function).names.lookup (Str.ofString "checked_sign_name") = some NameKind.globalImplicit := by decide +kernel
theorem zgq : (defScope s_checked_function).names.lookup (Str.ofString "function") = some NameKind.local := by decide +kernel
theorem zgr : (defScope s_checked_function).names.lookup (Str.ofString "is_list") = some NameKind.globalImplicit := by decide +kernel
theorem zgs : (defScope s_checked_function).names.lookup (Str.ofString "kind") = some NameKind.local := by decide +kernel
theorem zgt : (defScope s_checked_function).names.lookup (Str.ofString "kinds") = some NameKind.local := by decide +kernel
theorem zgu : (defScope s_checked_function).names.lookup (Str.ofString "len") = some NameKind.globalImplicit := by decide +kernel
theorem zgv : (defScope s_checked_function).names.lookup (Str.ofString "name") = some NameKind.local := by decide +kernel
theorem zgw : (defScope s_checked_function).names.lookup (Str.ofString "places") = some NameKind.local := by decide +kernel
def spFunc (C : Addr) : Sp := fun vs H Q E => ∃ (a : Addr) (ks : List Str) (v : V), vs = [.ref a, v] ∧ LT H a (ks.map V.str) ∧ Dat 2 H v ∧
 (∀ nm ps kd, FunV H ks v nm ps kd → ∀ t u H', H' t = some (.tup [.str nm, .ref u, .str kd]) → H' u = some (.tup (ps.map V.str)) → Same H H' → Q (.ref t) H') ∧ ((∀ nm ps kd, ¬ FunV H ks v nm ps kd) → ∀ H', Same H H' → E (.ref C) none H')
theorem ok_func {C : Addr} (F : FunAt K mg "checked_function" s_checked_function ["kinds", "function"]) (Z : Bl mg) (O_NoSigns : ExcCls K mg "NoSigns" C) (D_is_list : DefE P w K mg base "is_list" 1 ["thing"] spIsList) (D_checked_sign_name : DefE P w K mg base "checked_sign_name" 2 ["name"] (spSignName C)) (D_checked_places : DefE P w K mg base "checked_places" 3 ["kinds", "places"] (spPlaces C))
  (D_checked_kind : DefE P w K mg base "checked_kind" 2 ["kinds", "kind"] (spKind C)) : DefE P w K mg base "checked_function" 4 ["kinds", "function"] (spFunc C) := by
 have SC := zgl
 refine F.mkE (k := 3) zgl (fun vs H Q E h => ?_) (fun f cdv A outer s H vs Q E hr h => ?_)
 ·obtain ⟨a, ks, v, rfl, _⟩ := h
  rfl
 ·obtain ⟨a, ks, v, rfl, hA, hd, q, no⟩ := h
  have one : 1 ≤ sizeLine := by decide
  refine' ⟨_, ?derivation, ?_⟩
  case derivation =>
   refine' pss_cons ?ka ?kb
   case ka =>
    refine' ps_if ?kc ?kd pss_nil
    case kc =>
     refine' PW.pt ?ke
     case ke =>
      refine' pw_or ?kf ?kg
      case kf =>
       refine' pt_not ?kh
       case kh =>
        refine' pt_val ?ki ?kj
        case ki =>
         refine' pe_defE (hdb := zd6) framed_of D_is_list ?kk zgr ?kl rfl rfl
         case kk => exact (hr.mono (by decide))
         case kl =>
          refine' pa_cons ?km pa_nil rfl
          case km => exact (pq 1 (visL zgq) zd4 zd5)
        case kj => intro _; rfl
      case kg =>
       refine' pw_or1 ?kn
       case kn =>
        refine' pt_cmpR op_ne ?ko ?kp ?kq
        case ko =>
         refine' pe_callB (hn := zbw) (hdb := zbv) call_len_seq zgu Z.n_len bt_len ?kr rfl rfl
         case kr =>
          refine' pa_cons ?ks pa_nil rfl
          case ks => exact (pq 1 (visL zgq) zd4 zd5)
        case kp => exact pe_int
        case kq => exact (nomark _)
    case kd =>
     refine' pss_one ?kt
     case kt =>
      refine' ps_raise (hdb := zdw) framed_of ?ku ?kv zgm ?kw rfl rfl
      case ku => exact rfl
      case kv => exact O_NoSigns
      case kw =>
       refine' pa_cons ?kx pa_nil rfl
       case kx => exact pe_str
   case kb =>
    refine' pss_cons ?ky ?kz
    case ky =>
     refine' ps_asg ?kba ?kbb rfl rfl rfl
     case kba => exact (pq 1 (visL zgq) zd4 zd5)
     case kbb =>
      refine' pg_seq ?kbc ?kbd rfl rfl
      case kbc => exact rfl
      case kbd =>
       refine' pgs_cons ?kbe ?kbf rfl
       case kbe =>
        refine' pg_name (i := 2) (x := Str.ofString "name") ?kbg ?kbh ?kbi ?kbj
        case kbg => exact SC.nd
        case kbh => exact rfl
        case kbi => exact (Or.inl zgv)
        case kbj => exact (.inl rfl)
       case kbf =>
        refine' pgs_cons ?kbk ?kbl rfl
        case kbk =>
         refine' pg_name (i := 3) (x := Str.ofString "places") ?kbm ?kbn ?kbo ?kbp
         case kbm => exact SC.nd
         case kbn => exact rfl
         case kbo => exact (Or.inl zgw)
         case kbp => exact (.inl rfl)
        case kbl =>
         refine' pgs_cons ?kbq pgs_nil rfl
         case kbq =>
          refine' pg_name (i := 4) (x := Str.ofString "kind") ?kbr ?kbs ?kbt ?kbu
          case kbr => exact SC.nd
          case kbs => exact rfl
          case kbt => exact (Or.inl zgs)
          case kbu => exact (.inl rfl)
    case kz =>
     refine' pss_one ?kbv
     case kbv =>
      refine' ps_ret ?kbw
      case kbw =>
       refine' pe_tup ?kbx
       case kbx =>
        refine' pa_cons ?kby ?kbz rfl
        case kby =>
         refine' pe_defE (hdb := zd3) framed_of D_checked_sign_name ?kca zgp ?kcb rfl rfl
         case kca => exact (hr.mono (by decide))
         case kcb =>
          refine' pa_cons ?kcc pa_nil rfl
          case kcc => exact (pq 2 (visL zgv) zee zef)
        case kbz =>
         refine' pa_cons ?kcd ?kce rfl
         case kcd =>
          refine' pe_defE (hdb := zd2) framed_of D_checked_places ?kcf zgo ?kcg rfl rfl
          case kcf => exact (hr.mono (by decide))
          case kcg =>
           refine' pa_cons ?kch ?kci rfl
           case kch => exact (pq 0 (visL zgt) zec zed)
           case kci =>
            refine' pa_cons ?kcj pa_nil rfl
            case kcj => exact (pq 3 (visL zgw) zei zej)
         case kce =>
          refine' pa_cons ?kck pa_nil rfl
          case kck =>
           refine' pe_defE (hdb := zd1) framed_of D_checked_kind ?kcl zgn ?kcm rfl rfl
           case kcl => exact (hr.mono (by decide))
           case kcm =>
            refine' pa_cons ?kcn ?kco rfl
            case kcn => exact (pq 0 (visL zgt) zec zed)
            case kco =>
             refine' pa_cons ?kcp pa_nil rfl
             case kcp => exact (pq 4 (visL zgs) zea zeb)
  refine ⟨_, rfl, v, rfl, hd.1, fun H1 s1 => ?_⟩
  cases hrow : rowOf H v with
  | none => exact ⟨false, rfl, iteT ⟨one, no (fun nm ps kd ⟨_, _, _, e, _⟩ => by rw [e] at hrow; cases hrow) _ s1⟩⟩
  | some xs =>
   refine ⟨true, rfl, iteF ?_⟩
   obtain ⟨b, rfl, hB⟩ := rowOf.lt hrow
   refine ⟨_, rfl, b, _, rfl, (hB.same s1).sq, rfl, _, rfl, ?_⟩
   by_cases k2 : xs.length = 3
   ·refine ifF (by simp; omega) ?_
    obtain ⟨x, y, z, rfl⟩ : ∃ x y z, xs = [x, y, z] := by
     match xs, k2 with
     | [x, y, z], _ => exact ⟨x, y, z, rfl⟩
    refine ⟨_, rfl, b, _, rfl, (hB.same s1).sq, rfl, _, _, rfl, _, _, rfl, _, _, rfl, rfl, ?_⟩
    have hx := (hd.2 _ hrow x (by simp)).sh
    have hy := hd.2 _ hrow y (by simp)
    have hz := (hd.2 _ hrow z (by simp)).sh
    refine ⟨_, rfl, x, rfl, hx.same s1, fun nm hnm H2 s2 => ?_, fun hnm H2 s2 => no (fun nm ps kd ⟨_, _, _, e, h1, _⟩ => by rw [hrow] at e; cases e; exact hnm nm h1) _ (s1.trans s2)⟩
    have s02 := s1.trans s2
    have pv : ∀ ps, PlcV H2 ks y ps ↔ PlcV H ks y ps := fun ps => by unfold PlcV; rw [hy.sh.rows s02]
    refine ⟨_, rfl, _, rfl, a, ks, y, rfl, hA.same s02, hy.same s02, fun ps hps u H3 hu s3 => ?_, fun hps H3 s3 => no (fun nm ps kd ⟨_, _, _, e, _, h2, _⟩ => by rw [hrow] at e; cases e; exact hps ps ((pv ps).mpr h2)) _ (s02.trans s3)⟩
    have s03 := s02.trans s3
    refine ⟨_, rfl, _, rfl, a, ks, z, rfl, hA.same s03, hz.same s03, fun kd hkd H4 s4 => ?_, fun hkd H4 s4 => no (fun nm ps kd ⟨_, _, _, e, _, _, h3⟩ => by rw [hrow] at e; cases e; exact hkd kd h3) _ (s03.trans s4)⟩
    refine ⟨by show 3 ≤ sizeLine; decide, fun t ht => ?_⟩
    exact q nm ps kd ⟨x, y, z, hrow, hnm, (pv ps).mp hps, hkd⟩ t u _ upd_same (same_new ht _ _ _ (s4 _ _ hu)) ((s03.trans s4).trans (same_new ht _))
   ·refine ifT (by simp; omega) ⟨one, no (fun nm ps kd ⟨_, _, _, e, _⟩ => k2 (by rw [hrow] at e; cases e; rfl)) _ s1⟩
end
end FewE

set_option Elab.async false
set_option linter.all false
set_option maxRecDepth 100000
set_option maxHeartbeats 1000000
namespace FewE
open PySem L2 Few
theorem zgx : ((Str.ofString "MOST_SIGNS" : Str) == ("__debug__" : Str)) = false := by decide +kernel
theorem zgy : ((Str.ofString "checked_function" : Str) == ("__debug__" : Str)) = false := by decide +kernel
theorem zgz : ((Str.ofString "checked_kinds" : Str) == ("__debug__" : Str)) = false := by decide +kernel
theorem zg0 : ((Str.ofString "checked_tie" : Str) == ("__debug__" : Str)) = false := by decide +kernel
theorem zg1 : ((Str.ofString "functions" : Str) == ("__debug__" : Str)) = false := by decide +kernel
theorem zg2 : ((Str.ofString "functions" : Str) == ("__classdict__" : Str)) = false := by decide +kernel
theorem zg3 : ((Str.ofString "self" : Str) == ("__debug__" : Str)) = false := by decide +kernel
theorem zg4 : ((Str.ofString "self" : Str) == ("__classdict__" : Str)) = false := by decide +kernel
theorem zg5 : ((Str.ofString "ties" : Str) == ("__debug__" : Str)) = false := by decide +kernel
theorem zg6 : ((Str.ofString "ties" : Str) == ("__classdict__" : Str)) = false := by decide +kernel
structure Keep (H H' : Hp) : Prop where
 lst : ∀ a xs, H a = some (.lst xs) → H' a = some (.lst xs)
 tup : ∀ a xs, H a = some (.tup xs) → H' a = some (.tup xs)
 dct : ∀ a kvs, H a = some (.dK kvs) → H' a = some (.dK kvs)
theorem Keep.of {H H' : Hp} (s : Same H H') : Keep H H' := ⟨fun a _ e => s a _ e, fun a _ e => s a _ e, fun a _ e => s a _ e⟩
theorem Keep.ofX {H H' : Hp} {x C dx : Addr} {fl : List (Str × V)} (s : SameX x H H') (hx : H x = some (.ins C dx fl)) : Keep H H' :=
 ⟨fun a _ e => s a _ (fun z => by rw [z, hx] at e; cases e) e, fun a _ e => s a _ (fun z => by rw [z, hx] at e; cases e) e, fun a _ e => s a _ (fun z => by rw [z, hx] at e; cases e) e⟩
theorem Keep.trans {H H1 H2 : Hp} (a : Keep H H1) (b : Keep H1 H2) : Keep H H2 := ⟨fun c xs e => b.lst c xs (a.lst c xs e), fun c xs e => b.tup c xs (a.tup c xs e), fun c xs e => b.dct c xs (a.dct c xs e)⟩
theorem Keep.lt {H H' : Hp} {a : Addr} {xs : List V} (k : Keep H H') (h : LT H a xs) : LT H' a xs := h.elim (fun e => .inl (k.lst _ _ e)) fun e => .inr (k.tup _ _ e)
theorem Sh.keep {H H' : Hp} {v : V} (h : Sh H v) (s : Keep H H') : Sh H' v := by
 cases h with
 | non => exact .non
 | bl b => exact .bl b
 | int i => exact .int i
 | str z h => exact .str z h
 | row h => exact .row (s.lt h)
 | dct h => exact .dct (s.dct _ _ h)
theorem Sh.rowsK {H H' : Hp} {v : V} (h : Sh H v) (s : Keep H H') : rowOf H' v = rowOf H v := by
 cases h with
 | non => rfl
 | bl b => rfl
 | int i => rfl
 | str z h => rfl
 | row h => rw [row_of h, row_of (s.lt h)]
 | dct h => rw [row_dct h, row_dct (s.dct _ _ h)]
theorem Dat.keep : ∀ {n : Nat} {H H' : Hp} {v : V}, Dat n H v → Keep H H' → Dat n H' v
 | 0, _, _, _, h, s => Sh.keep h s
 | n + 1, _, _, _, h, s => ⟨h.1.keep s, fun xs e x hx => (h.2 xs (by rw [← h.1.rowsK s]; exact e) x hx).keep s⟩
theorem plc_keep {H H' : Hp} {ks : List Str} {v : V} {ps : List Str} (h : Dat 1 H v) (s : Keep H H') : PlcV H' ks v ps ↔ PlcV H ks v ps := by unfold PlcV; rw [h.sh.rowsK s]
theorem tie_keep {H H' : Hp} {ks : List Str} {v : V} {nm : Str} {ps : List Str} (h : Dat 2 H v) (s : Keep H H') : TieV H' ks v nm ps ↔ TieV H ks v nm ps := by
 unfold TieV
 rw [h.sh.rowsK s]
 exact ⟨fun ⟨x, y, e, a, b⟩ => ⟨x, y, e, a, (plc_keep (h.2 _ e y (by simp)) s).mp b⟩, fun ⟨x, y, e, a, b⟩ => ⟨x, y, e, a, (plc_keep (h.2 _ e y (by simp)) s).mpr b⟩⟩
theorem fun_keep {H H' : Hp} {ks : List Str} {v : V} {nm kd : Str} {ps : List Str} (h : Dat 2 H v) (s : Keep H H') : FunV H' ks v nm ps kd ↔ FunV H ks v nm ps kd := by
 unfold FunV
 rw [h.sh.rowsK s]
 exact ⟨fun ⟨x, y, z, e, a, b, c⟩ => ⟨x, y, z, e, a, (plc_keep (h.2 _ e y (by simp)) s).mp b, c⟩, fun ⟨x, y, z, e, a, b, c⟩ => ⟨x, y, z, e, a, (plc_keep (h.2 _ e y (by simp)) s).mpr b, c⟩⟩
inductive Prd (R : V → Str → Prop) : List V → List Str → Prop where
 | nil : Prd R [] []
 | cons {x : V} {n : Str} {r : List V} {t : List Str} (h : R x n) (tl : Prd R r t) : Prd R (x :: r) (n :: t)
theorem Prd.append {R : V → Str → Prop} {xs ys : List V} {ns ms : List Str} (a : Prd R xs ns) (b : Prd R ys ms) : Prd R (xs ++ ys) (ns ++ ms) := by
 induction a with
 | nil => exact b
 | cons h tl ih => exact .cons h ih
theorem Prd.snoc {R : V → Str → Prop} {xs : List V} {ns : List Str} {x : V} {n : Str} (a : Prd R xs ns) (h : R x n) : Prd R (xs ++ [x]) (ns ++ [n]) := a.append (.cons h .nil)
theorem Prd.imp {R S : V → Str → Prop} {xs : List V} {ns : List Str} (a : Prd R xs ns) (f : ∀ x n, x ∈ xs → R x n → S x n) : Prd S xs ns := by
 induction a with
 | nil => exact .nil
 | cons h tl ih => exact .cons (f _ _ List.mem_cons_self h) (ih fun x n hx => f x n (List.mem_cons_of_mem _ hx))
theorem Prd.length {R : V → Str → Prop} {xs : List V} {ns : List Str} (a : Prd R xs ns) : xs.length = ns.length := by
 induction a with
 | nil => rfl
 | cons h tl ih => rw [List.length_cons, List.length_cons, ih]
theorem Prd.get {R : V → Str → Prop} {xs : List V} {ns : List Str} (a : Prd R xs ns) : ∀ {i : Nat} {x : V}, xs[i]? = some x → ∃ n, ns[i]? = some n ∧ R x n := by
 induction a with
 | nil => intro i x h; simp at h
 | cons h tl ih =>
  intro i x e
  cases i with
  | zero => simp at e; subst e; exact ⟨_, by simp, h⟩
  | succ i => simp at e; obtain ⟨n, e1, e2⟩ := ih e; exact ⟨n, by simpa using e1, e2⟩
theorem Prd.uniq {R : V → Str → Prop} (f : ∀ x n m, R x n → R x m → n = m) {xs : List V} {ns ms : List Str} (a : Prd R xs ns) (b : Prd R xs ms) : ns = ms := by
 induction a generalizing ms with
 | nil => cases b; rfl
 | cons h tl ih => cases b with | cons h' tl' => rw [f _ _ _ h h', ih tl']
def TieN (H : Hp) (ks : List Str) (x : V) (nm : Str) : Prop := ∃ ps, TieV H ks x nm ps
def FunN (H : Hp) (ks : List Str) (x : V) (nm : Str) : Prop := ∃ ps kd, FunV H ks x nm ps kd
theorem TieN.uniq {H : Hp} {ks : List Str} (x : V) (n m : Str) (a : TieN H ks x n) (b : TieN H ks x m) : n = m := by
 obtain ⟨_, _, _, e, h, _⟩ := a
 obtain ⟨_, _, _, e', h', _⟩ := b
 rw [e] at e'; cases e'
 have := h.1.symm.trans h'.1
 cases this; rfl
theorem FunN.uniq {H : Hp} {ks : List Str} (x : V) (n m : Str) (a : FunN H ks x n) (b : FunN H ks x m) : n = m := by
 obtain ⟨_, _, _, _, _, e, h, _⟩ := a
 obtain ⟨_, _, _, _, _, e', h', _⟩ := b
 rw [e] at e'; cases e'
 have := h.1.symm.trans h'.1
 cases this; rfl
structure BookAs (H : Hp) (v1 v2 v3 : V) (ks : List Str) (xs ys : List V) (ns ms : List Str) : Prop where
 kinds : KindsV H v1 ks
 r2 : rowOf H v2 = some xs
 r3 : rowOf H v3 = some ys
 len : xs.length + ys.length ≤ 8
 ties : Prd (TieN H ks) xs ns
 funs : Prd (FunN H ks) ys ms
 apart : (ns ++ ms).Nodup
def BookV (H : Hp) (v1 v2 v3 : V) : Prop := ∃ ks xs ys ns ms, BookAs H v1 v2 v3 ks xs ys ns ms
theorem KindsV.uniq {H : Hp} {v : V} {ks ks' : List Str} (a : KindsV H v ks) (b : KindsV H v ks') : ks = ks' := strs_inj (Option.some.inj (a.1.symm.trans b.1))
def KeptN (H : Hp) (y : V) (nm : Str) : Prop := ∃ p r, y = .ref p ∧ H p = some (.tup (.str nm :: r))
theorem KeptN.keep {H H' : Hp} {ys : List V} {ns : List Str} (a : Prd (KeptN H) ys ns) (k : Keep H H') : Prd (KeptN H') ys ns := a.imp fun x n _ ⟨p, r, e, h⟩ => ⟨p, r, e, k.tup _ _ h⟩
section
variable {P : Program} {w : World} {K : PySem.W.Frag} {mg : Str → Option Value} {base : Heap}
abbrev s__init__ : Stmt := inClass (top 21) 0
theorem zg7 : FnScope ["self", "kinds", "ties", "functions"] ["self", "kinds", "ties", "functions"] (defScope s__init__) := ⟨rfl, rfl, rfl, by decide +kernel, rfl, by decide +kernel, by decide +kernel⟩
theorem zg8 : (defScope s__init__).names.lookup (Str.ofString "MOST_SIGNS") = some NameKind.globalImplicit := by decide +kernel
theorem zg9 : (defScope s__init__).names.lookup (Str.ofString "NoSigns") = some NameKind.globalImplicit := by decide +kernel
theorem zha : (defScope s__init__).names.lookup (Str.ofString "check_apart") = some NameKind.globalImplicit := by decide +kernel
theorem zhb : (defScope s__init__).names.lookup (Str.ofString "checked_kinds") = some NameKind.globalImplicit := by decide +kernel
theorem zhc : (defScope s__init__).names.lookup (Str.ofString "functions") = some NameKind.local := by decide +kernel
theorem zhd : (defScope s__init__).names.lookup (Str.ofString "is_list") = some NameKind.globalImplicit := by decide +kernel
theorem zhe : (defScope s__init__).names.lookup (Str.ofString "kinds") = some NameKind.local := by decide +kernel
theorem zhf : (defScope s__init__).names.lookup (Str.ofString "len") = some NameKind.globalImplicit := by decide +kernel
theorem zhg : (defScope s__init__).names.lookup (Str.ofString "self") = some NameKind.cell := by decide +kernel
theorem zhh : (defScope s__init__).names.lookup (Str.ofString "ties") = some NameKind.local := by decide +kernel
theorem zhi : (defScope s__init__).names.lookup (Str.ofString "tuple") = some NameKind.globalImplicit := by decide +kernel
theorem zhj : CompSc 1 ["sign", "self", "kinds", "ties", "functions"] ["self", "kinds", "ties", "functions"] (defScope s__init__) { kind := PySem.ScopeKind.function, names := [(PySem.Str.ofString ".0", PySem.NameKind.local), (PySem.Str.ofString "sign", PySem.NameKind.local)], isGenerator := false, isCoroutine := false, more := [] : PySem.Scope } := ⟨rfl, by decide +kernel, by decide +kernel, by decide +kernel, by decide +kernel, rfl, by decide +kernel⟩
theorem zhk : ({ kind := PySem.ScopeKind.function, names := [(PySem.Str.ofString ".0", PySem.NameKind.local), (PySem.Str.ofString "sign", PySem.NameKind.local)], isGenerator := false, isCoroutine := false, more := [] : PySem.Scope } : Scope).names.lookup (Str.ofString "sign") = some NameKind.local := by decide +kernel
theorem zhl : CompSc 1 ["function", "self", "kinds", "ties", "functions"] ["self", "kinds", "ties", "functions"] (defScope s__init__) { kind := PySem.ScopeKind.function, names := [ (PySem.Str.ofString ".0", PySem.NameKind.local), (PySem.Str.ofString "function", PySem.NameKind.local), (PySem.Str.ofString "checked_function", PySem.NameKind.globalImplicit), (PySem.Str.ofString "self", PySem.NameKind.free)], isGenerator := false, isCoroutine := false, more := [] : PySem.Scope } := ⟨rfl, by decide +kernel, by decide +kernel, by decide +kernel, by decide +kernel, rfl, by decide +kernel⟩
theorem zhm : ({ kind := PySem.ScopeKind.function, names := [ (PySem.Str.ofString ".0", PySem.NameKind.local), (PySem.Str.ofString "function", PySem.NameKind.local), (PySem.Str.ofString "checked_function", PySem.NameKind.globalImplicit), (PySem.Str.ofString "self", PySem.NameKind.free)], isGenerator := false, isCoroutine := false, more := [] : PySem.Scope } : Scope).names.lookup (Str.ofString "checked_function") = some NameKind.globalImplicit := by decide +kernel
theorem zhn : ({ kind := PySem.ScopeKind.function, names := [ (PySem.Str.ofString ".0", PySem.NameKind.local), (PySem.Str.ofString "function", PySem.NameKind.local), (PySem.Str.ofString "checked_function", PySem.NameKind.globalImplicit), (PySem.Str.ofString "self", PySem.NameKind.free)], isGenerator := false, isCoroutine := false, more := [] : PySem.Scope } : Scope).names.lookup (Str.ofString "function") = some NameKind.local := by decide +kernel
theorem zho : ({ kind := PySem.ScopeKind.function, names := [ (PySem.Str.ofString ".0", PySem.NameKind.local), (PySem.Str.ofString "function", PySem.NameKind.local), (PySem.Str.ofString "checked_function", PySem.NameKind.globalImplicit), (PySem.Str.ofString "self", PySem.NameKind.free)], isGenerator := false, isCoroutine := false, more := [] : PySem.Scope } : Scope).names.lookup (Str.ofString "self") = some NameKind.free := by decide +kernel
theorem zhp : CompSc 1 ["tie", "self", "kinds", "ties", "functions"] ["self", "kinds", "ties", "functions"] (defScope s__init__) { kind := PySem.ScopeKind.function, names := [ (PySem.Str.ofString ".0", PySem.NameKind.local), (PySem.Str.ofString "tie", PySem.NameKind.local), (PySem.Str.ofString "checked_tie", PySem.NameKind.globalImplicit), (PySem.Str.ofString "self", PySem.NameKind.free)], isGenerator := false, isCoroutine := false, more := [] : PySem.Scope } := ⟨rfl, by decide +kernel, by decide +kernel, by decide +kernel, by decide +kernel, rfl, by decide +kernel⟩
theorem zhq : ({ kind := PySem.ScopeKind.function, names := [ (PySem.Str.ofString ".0", PySem.NameKind.local), (PySem.Str.ofString "tie", PySem.NameKind.local), (PySem.Str.ofString "checked_tie", PySem.NameKind.globalImplicit), (PySem.Str.ofString "self", PySem.NameKind.free)], isGenerator := false, isCoroutine := false, more := [] : PySem.Scope } : Scope).names.lookup (Str.ofString "checked_tie") = some NameKind.globalImplicit := by decide +kernel
theorem zhr : ({ kind := PySem.ScopeKind.function, names := [ (PySem.Str.ofString ".0", PySem.NameKind.local), (PySem.Str.ofString "tie", PySem.NameKind.local), (PySem.Str.ofString "checked_tie", PySem.NameKind.globalImplicit), (PySem.Str.ofString "self", PySem.NameKind.free)], isGenerator := false, isCoroutine := false, more := [] : PySem.Scope } : Scope).names.lookup (Str.ofString "self") = some NameKind.free := by decide +kernel
theorem zhs : ({ kind := PySem.ScopeKind.function, names := [ (PySem.Str.ofString ".0", PySem.NameKind.local), (PySem.Str.ofString "tie", PySem.NameKind.local), (PySem.Str.ofString "checked_tie", PySem.NameKind.globalImplicit), (PySem.Str.ofString "self", PySem.NameKind.free)], isGenerator := false, isCoroutine := false, more := [] : PySem.Scope } : Scope).names.lookup (Str.ofString "tie") = some NameKind.local := by decide +kernel
def spInit (C CN : Addr) : Sp := fun vs H Q E => ∃ (x dx : Addr) (v1 v2 v3 : V), vs = [.ref x, v1, v2, v3] ∧ H x = some (.ins C dx []) ∧ Dat 1 H v1 ∧ Dat 3 H v2 ∧ Dat 3 H v3 ∧
 (BookV H v1 v2 v3 → ∀ H', SameX x H H' → Q .non H') ∧ (¬ BookV H v1 v2 v3 → ∀ H', SameX x H H' → E (.ref CN) none H')
theorem ok_init {f C CN : Addr} {fd : FuncData} (F : Fun K "__init__" "Signs.__init__" s__init__ f fd) (Z : Bl mg) (G : Gs K mg) (T : ClS K C) (O_NoSigns : ExcCls K mg "NoSigns" CN) (D_is_list : DefE P w K mg base "is_list" 1 ["thing"] spIsList) (D_checked_kinds : DefE P w K mg base "checked_kinds" 2 ["kinds"] (spKinds CN))
  (D_checked_tie : DefE P w K mg base "checked_tie" 4 ["kinds", "tie"] (spTie CN)) (D_checked_function : DefE P w K mg base "checked_function" 4 ["kinds", "function"] (spFunc CN)) (D_check_apart : DefE P w K mg base "check_apart" 1 ["names"] (spApart CN)) :
  FnOk P w K mg base (CX1 P w) 5 f fd ["self", "kinds", "ties", "functions"] (spInit C CN) := by
 have SC := zg7
 obtain ⟨_, g_MOST_SIGNS, r_MOST_SIGNS⟩ := G.msigns
 refine F.okE zg7 (fun vs H Q E h => ?_) (fun cdv A outer s H vs Q E hr h => ?_)
 ·obtain ⟨x, dx, v1, v2, v3, rfl, _⟩ := h
  rfl
 ·obtain ⟨x, dx, v1, v2, v3, rfl, hx, d1, d2, d3, q, no⟩ := h
  have one : 1 ≤ sizeLine := by decide
  have kp : ∀ {H'}, SameX x H H' → Keep H H' := fun s => Keep.ofX s hx
  refine' ⟨_, ?derivation, ?_⟩
  case derivation =>
   refine' pss_cons ?ka ?kb
   case ka =>
    refine' ps_fld ?kc ?kd ?ke
    case kc => exact (pq 0 (visC zhg) zg3 zg4)
    case kd =>
     refine' pe_defE (hdb := zgz) framed_of ?kf ?kg ?kh ?ki ?kj ?kk
     case kf => exact D_checked_kinds
     case kg => exact (hr.mono (by decide))
     case kh => exact zhb
     case ki =>
      refine' pa_cons ?kl pa_nil ?km
      case kl => exact (pq 1 (visL zhe) zec zed)
      case km => rfl
     case kj => rfl
     case kk => rfl
    case ke => exact rfl
   case kb =>
    refine' pss_cons ?kn ?ko
    case kn =>
     refine' ps_if ?kp ?kq pss_nil
     case kp =>
      refine' PW.pt ?kr
      case kr =>
       refine' pw_or ?ks ?kt
       case ks =>
        refine' pt_not ?ku
        case ku =>
         refine' pt_val ?kv ?kw
         case kv =>
          refine' pe_defE (hdb := zd6) framed_of ?kx ?ky ?kz ?kba ?kbb ?kbc
          case kx => exact D_is_list
          case ky => exact (hr.mono (by decide))
          case kz => exact zhd
          case kba =>
           refine' pa_cons ?kbd pa_nil ?kbe
           case kbd => exact (pq 2 (visL zhh) zg5 zg6)
           case kbe => rfl
          case kbb => rfl
          case kbc => rfl
         case kw => intro _; rfl
       case kt =>
        refine' pw_or1 ?kbf
        case kbf =>
         refine' pt_not ?kbg
         case kbg =>
          refine' pt_val ?kbh ?kbi
          case kbh =>
           refine' pe_defE (hdb := zd6) framed_of ?kbj ?kbk ?kbl ?kbm ?kbn ?kbo
           case kbj => exact D_is_list
           case kbk => exact (hr.mono (by decide))
           case kbl => exact zhd
           case kbm =>
            refine' pa_cons ?kbp pa_nil ?kbq
            case kbp => exact (pq 3 (visL zhc) zg1 zg2)
            case kbq => rfl
           case kbn => rfl
           case kbo => rfl
          case kbi => intro _; rfl
     case kq =>
      refine' pss_one ?kbr
      case kbr =>
       refine' ps_raise (hdb := zdw) framed_of ?kbs ?kbt ?kbu ?kbv ?kbw ?kbx
       case kbs => exact rfl
       case kbt => exact O_NoSigns
       case kbu => exact zg9
       case kbv =>
        refine' pa_cons ?kby pa_nil ?kbz
        case kby => exact pe_str
        case kbz => rfl
       case kbw => rfl
       case kbx => rfl
    case ko =>
     refine' pss_cons ?kca ?kcb
     case kca =>
      refine' ps_if ?kcc ?kcd pss_nil
      case kcc =>
       refine' pt_cmpR ?kce ?kcf ?kcg ?kch
       case kce => exact op_gt
       case kcf =>
        refine' pe_op ?kci ?kcj ?kck
        case kci => exact op_add
        case kcj =>
         refine' pe_callB (hn := zbw) (hdb := zbv) ?kcl ?kcm ?kcn ?kco ?kcp ?kcq ?kcr
         case kcl => exact call_len_seq
         case kcm => exact zhf
         case kcn => exact Z.n_len
         case kco => exact bt_len
         case kcp =>
          refine' pa_cons ?kcs pa_nil ?kct
          case kcs => exact (pq 2 (visL zhh) zg5 zg6)
          case kct => rfl
         case kcq => rfl
         case kcr => rfl
        case kck =>
         refine' pe_callB (hn := zbw) (hdb := zbv) ?kcu ?kcv ?kcw ?kcx ?kcy ?kcz ?kda
         case kcu => exact call_len_seq
         case kcv => exact zhf
         case kcw => exact Z.n_len
         case kcx => exact bt_len
         case kcy =>
          refine' pa_cons ?kdb pa_nil ?kdc
          case kdb => exact (pq 3 (visL zhc) zg1 zg2)
          case kdc => rfl
         case kcz => rfl
         case kda => rfl
       case kcg =>
        refine' pe_glob (hd := zgx) ?kdd ?kde ?kdf
        case kdd => exact zg8
        case kde => exact g_MOST_SIGNS
        case kdf => exact r_MOST_SIGNS
       case kch => exact (nomark _)
      case kcd =>
       refine' pss_one ?kdg
       case kdg =>
        refine' ps_raise (hdb := zdw) framed_of ?kdh ?kdi ?kdj ?kdk ?kdl ?kdm
        case kdh => exact rfl
        case kdi => exact O_NoSigns
        case kdj => exact zg9
        case kdk =>
         refine' pa_cons ?kdn pa_nil ?kdo
         case kdn => exact pe_str
         case kdo => rfl
        case kdl => rfl
        case kdm => rfl
     case kcb =>
      refine' pss_cons ?kdp ?kdq
      case kdp =>
       refine' ps_fld ?kdr ?kds ?kdt
       case kdr => exact (pq 0 (visC zhg) zg3 zg4)
       case kds =>
        refine' pe_callTy (hn := zev) (hdb := zeu) ?kdu ?kdv ?kdw ?kdx ?kdy ?kdz ?kea
        case kdu => exact call_tuple_of
        case kdv => exact zhi
        case kdw => exact Z.n_tuple
        case kdx => exact bt_tuple
        case kdy =>
         refine' pa_cons ?keb pa_nil ?kec
         case keb =>
          refine' pe_compE framed_of ?ked ?kee ?kef ?keg ?keh ?kei
          case ked => exact rfl
          case kee => exact zhp.at
          case kef =>
           refine' pi_seq ?kej
           case kej => exact (pq 2 (visL zhh) zg5 zg6)
          case keg =>
           intro _ _ _ _ _
           refine' pg_name (i := 0) ?kek ?kel ?kem ?ken
           case kek => exact zhp.nd
           case kel => exact rfl
           case kem => exact (locO zhs)
           case ken => exact (.inr (lookup_relabel_local zhs))
          case keh =>
           intro _ _ _ _ _
           refine' pe_defE (hdb := zg0) ?keo ?kep ?keq ?ker ?kes ?ket ?keu
           case keo => exact (framed_comp framed_of)
           case kep => exact D_checked_tie
           case keq => exact (hr.mono (by decide))
           case ker => exact (glO zhq)
           case kes =>
            refine' pa_cons ?kev ?kew ?kex
            case kev =>
             refine' pe_fld ?key ?kez
             case key => exact (pq 1 (visF zhr) zg3 zg4)
             case kez => exact rfl
            case kew =>
             refine' pa_cons ?kfa pa_nil ?kfb
             case kfa => exact (pq 0 (visO zhs) zes zet)
             case kfb => rfl
            case kex => rfl
           case ket => rfl
           case keu => rfl
          case kei => intro _; rfl
         case kec => rfl
        case kdz => rfl
        case kea => rfl
       case kdt => exact rfl
      case kdq =>
       refine' pss_cons ?kfc ?kfd
       case kfc =>
        refine' ps_fld ?kfe ?kff ?kfg
        case kfe => exact (pq 0 (visC zhg) zg3 zg4)
        case kff =>
         refine' pe_callTy (hn := zev) (hdb := zeu) ?kfh ?kfi ?kfj ?kfk ?kfl ?kfm ?kfn
         case kfh => exact call_tuple_of
         case kfi => exact zhi
         case kfj => exact Z.n_tuple
         case kfk => exact bt_tuple
         case kfl =>
          refine' pa_cons ?kfo pa_nil ?kfp
          case kfo =>
           refine' pe_compE framed_of ?kfq ?kfr ?kfs ?kft ?kfu ?kfv
           case kfq => exact rfl
           case kfr => exact zhl.at
           case kfs =>
            refine' pi_seq ?kfw
            case kfw => exact (pq 3 (visL zhc) zg1 zg2)
           case kft =>
            intro _ _ _ _ _
            refine' pg_name (i := 0) ?kfx ?kfy ?kfz ?kga
            case kfx => exact zhl.nd
            case kfy => exact rfl
            case kfz => exact (locO zhn)
            case kga => exact (.inr (lookup_relabel_local zhn))
           case kfu =>
            intro _ _ _ _ _
            refine' pe_defE (hdb := zgy) ?kgb ?kgc ?kgd ?kge ?kgf ?kgg ?kgh
            case kgb => exact (framed_comp framed_of)
            case kgc => exact D_checked_function
            case kgd => exact (hr.mono (by decide))
            case kge => exact (glO zhm)
            case kgf =>
             refine' pa_cons ?kgi ?kgj ?kgk
             case kgi =>
              refine' pe_fld ?kgl ?kgm
              case kgl => exact (pq 1 (visF zho) zg3 zg4)
              case kgm => exact rfl
             case kgj =>
              refine' pa_cons ?kgn pa_nil ?kgo
              case kgn => exact (pq 0 (visO zhn) zd4 zd5)
              case kgo => rfl
             case kgk => rfl
            case kgg => rfl
            case kgh => rfl
           case kfv => intro _; rfl
          case kfp => rfl
         case kfm => rfl
         case kfn => rfl
        case kfg => exact rfl
       case kfd =>
        refine' pss_one ?kgp
        case kgp =>
         refine' ps_expr ?kgq ?kgr
         case kgq =>
          refine' pe_defE (hdb := zd0) framed_of ?kgs ?kgt ?kgu ?kgv ?kgw ?kgx
          case kgs => exact D_check_apart
          case kgt => exact (hr.mono (by decide))
          case kgu => exact zha
          case kgv =>
           refine' pa_cons ?kgy pa_nil ?kgz
           case kgy =>
            refine' pe_compE framed_of ?kha ?khb ?khc ?khd ?khe ?khf
            case kha => exact rfl
            case khb => exact zhj.at
            case khc =>
             refine' pi_tup ?khg
             case khg =>
              refine' pe_op ?khh ?khi ?khj
              case khh => exact op_catTT
              case khi =>
               refine' pe_fld ?khk ?khl
               case khk => exact (pq 0 (visC zhg) zg3 zg4)
               case khl => exact rfl
              case khj =>
               refine' pe_fld ?khm ?khn
               case khm => exact (pq 0 (visC zhg) zg3 zg4)
               case khn => exact rfl
            case khd =>
             intro _ _ _ _ _
             refine' pg_name (i := 0) ?kho ?khp ?khq ?khr
             case kho => exact zhj.nd
             case khp => exact rfl
             case khq => exact (locO zhk)
             case khr => exact (.inr (lookup_relabel_local zhk))
            case khe =>
             intro _ _ _ _ _
             refine' pe_ix ?khs ?kht ?khu ?khv
             case khs => exact ix_tup
             case kht => exact (pq 0 (visO zhk) zem zen)
             case khu => exact pe_int
             case khv =>
              intro _ _
              exact rfl
            case khf => intro _; rfl
           case kgz => rfl
          case kgw => rfl
          case kgx => rfl
         case kgr => rfl
  refine ⟨_, rfl, v1, rfl, d1, fun ks hks kt H1 hkt s1 => ?_, fun hks H1 s1 => no (fun ⟨ks, _, _, _, _, b⟩ => hks ks b.kinds) _ s1.x⟩
  refine ⟨_, rfl, x, C, dx, _, rfl, s1 _ _ hx, T.cl, T.nK, by decide, ?_⟩
  have nkx : kt ≠ x := by rintro rfl; rw [s1 _ _ hx] at hkt; cases hkt
  generalize hG2 : upd H1 x (.ins C dx (putF "kept_kinds" (.ref kt) [])) = H2
  have x2 : H2 x = some (.ins C dx (flK kt)) := by rw [← hG2]; exact upd_same
  have k2 : H2 kt = some (.tup (ks.map V.str)) := by rw [← hG2, upd_ne nkx]; exact hkt
  have S2 : SameX x H H2 := by rw [← hG2]; exact s1.x.trans (SameX.upd x H1 _)
  refine ⟨_, rfl, v2, rfl, d2.sh.keep (kp S2), fun H3 s3 => ?_⟩
  rw [d2.sh.rowsK (kp S2)]
  have S3 := S2.same s3
  cases hr2 : rowOf H v2 with
  | none => exact ⟨false, rfl, iteT ⟨one, no (fun ⟨_, _, _, _, _, b⟩ => by rw [b.r2] at hr2; cases hr2) _ S3⟩⟩
  | some xs =>
  refine ⟨true, rfl, iteF ?_⟩
  refine ⟨_, rfl, v3, rfl, d3.sh.keep (kp S3), fun H4 s4 => ?_⟩
  rw [d3.sh.rowsK (kp S3)]
  have S4 := S3.same s4
  cases hr3 : rowOf H v3 with
  | none => exact ⟨false, rfl, iteT ⟨one, no (fun ⟨_, _, _, _, _, b⟩ => by rw [b.r3] at hr3; cases hr3) _ S4⟩⟩
  | some zs =>
  refine ⟨true, rfl, iteF ?_⟩
  obtain ⟨b, rfl, hB⟩ := rowOf.lt hr2
  obtain ⟨c, rfl, hC⟩ := rowOf.lt hr3
  refine ⟨_, rfl, b, _, rfl, ((kp S4).lt hB).sq, _, rfl, c, _, rfl, ((kp S4).lt hC).sq, _, _, rfl, rfl, _, _, rfl, rfl, _, rfl, ?_⟩
  by_cases hl : xs.length + zs.length ≤ 8
  case neg =>
   refine ifT (by simp; omega) ⟨one, no (fun ⟨_, _, _, _, _, b⟩ => hl ?_) _ S4⟩
   have e := b.r2; rw [hr2] at e; cases e
   have e := b.r3; rw [hr3] at e; cases e
   exact b.len
  refine ifF (by simp; omega) ?_
  have s24 : Same H2 H4 := s3.trans s4
  have dx2 : ∀ {i y}, xs[i]? = some y → Dat 2 H y := fun h => d2.2 _ hr2 _ (List.mem_of_getElem? h)
  have dx3 : ∀ {i y}, zs[i]? = some y → Dat 2 H y := fun h => d3.2 _ hr3 _ (List.mem_of_getElem? h)
  refine ((kp S4).lt hB).over rfl fun J O => ?_
  intro cl C1 ex s0 H0
  refine O.comp (fun i ys H5 => Same H4 H5 ∧ ∃ ns, Prd (KeptN H5) ys ns ∧ Prd (TieN H ks) (xs.take i) ns) ⟨Same.refl _, [], .nil, .nil⟩ (Nat.le_trans (show xs.length ≤ 8 by omega) (by decide)) (fun i ys H5 _ ⟨z, _⟩ o e => z b o e) ?_ ?_
  ·rintro i y ys H5 hi hy ⟨s5, ns, n1, n2⟩
   have s25 := s24.trans s5
   have S5 := S4.same s5
   refine ⟨_, rfl, x, C, dx, _, _, rfl, s25 _ _ x2, T.cl, T.nK, flK_kinds _, _, rfl, kt, ks, y, rfl, .inr (s25 _ _ k2), (dx2 hi).keep (kp S5), fun nm ps tv tt u H6 h6 h7 s6 => ?_, fun tn H6 s6 => no (fun ⟨_, _, _, _, _, bb⟩ => ?_) _ (S5.same s6)⟩
   ·refine ⟨s5.trans s6, ns ++ [nm], (KeptN.keep n1 (.of s6)).snoc ⟨tt, _, rfl, h6⟩, ?_⟩
    rw [List.take_succ, hi]
    exact n2.snoc ⟨ps, (tie_keep (dx2 hi) (kp S5)).mp tv⟩
   ·have e := bb.r2; rw [hr2] at e; cases e
    have e := bb.kinds.uniq hks; subst e
    obtain ⟨n, _, ps, hp⟩ := bb.ties.get hi
    exact tn n ps ((tie_keep (dx2 hi) (kp S5)).mpr hp)
  rintro tv H5 hy ⟨s5, ns, n1, n2⟩ D1 hD1
  rw [List.take_length] at n2
  refine ⟨D1, tv, rfl, .inl ⟨SqL.of upd_same, fun tt htt => ?_⟩⟩
  have s6 := (same_new hD1 (.lst tv)).trans (same_new htt (.tup tv))
  have s26 := (s24.trans s5).trans s6
  refine ⟨_, rfl, x, C, dx, _, rfl, s26 _ _ x2, T.cl, T.nT, flK_len _, ?_⟩
  have tt6 : (upd (upd H5 D1 (.lst tv)) tt (.tup tv)) tt = some (.tup tv) := upd_same
  generalize (upd (upd H5 D1 (.lst tv)) tt (.tup tv)) = G6 at s6 s26 tt6
  have ntx : tt ≠ x := by rintro rfl; rw [s26 _ _ x2] at tt6; cases tt6
  generalize hG7 : upd G6 x (.ins C dx (putF "kept_ties" (.ref tt) (flK kt))) = H7
  have x7 : H7 x = some (.ins C dx (flT kt tt)) := by rw [← hG7]; exact upd_same
  have S67 : SameX x G6 H7 := by rw [← hG7]; exact SameX.upd x G6 _
  have K67 : Keep G6 H7 := Keep.ofX S67 (s26 _ _ x2)
  have t7 : H7 tt = some (.tup tv) := K67.tup _ _ tt6
  have k7 : H7 kt = some (.tup (ks.map V.str)) := K67.tup _ _ (s26 _ _ k2)
  have S7 : SameX x H H7 := (S2.same s26).trans S67
  have n7 : Prd (KeptN H7) tv ns := KeptN.keep n1 ((Keep.of s6).trans K67)
  refine ((kp S7).lt hC).over rfl fun J O => ?_
  intro cl C1 ex s0 H0
  refine O.comp (fun i ys H8 => Same H7 H8 ∧ ∃ ms, Prd (KeptN H8) ys ms ∧ Prd (FunN H ks) (zs.take i) ms) ⟨Same.refl _, [], .nil, .nil⟩ (Nat.le_trans (show zs.length ≤ 8 by omega) (by decide)) (fun i ys H8 _ ⟨z, _⟩ o e => z c o e) ?_ ?_
  ·rintro i y ys H8 hi hy ⟨s8, ms, m1, m2⟩
   have S8 := S7.same s8
   refine ⟨_, rfl, x, C, dx, _, _, rfl, s8 _ _ x7, T.cl, T.nK, flT_kinds _ _, _, rfl, kt, ks, y, rfl, .inr (s8 _ _ k7), (dx3 hi).keep (kp S8), fun nm ps kd fv tt u H9 h6 h7 s9 => ?_, fun fn H9 s9 => no (fun ⟨_, _, _, _, _, bb⟩ => ?_) _ (S8.same s9)⟩
   ·refine ⟨s8.trans s9, ms ++ [nm], (KeptN.keep m1 (.of s9)).snoc ⟨tt, _, rfl, h6⟩, ?_⟩
    rw [List.take_succ, hi]
    exact m2.snoc ⟨ps, kd, (fun_keep (dx3 hi) (kp S8)).mp fv⟩
   ·have e := bb.r3; rw [hr3] at e; cases e
    have e := bb.kinds.uniq hks; subst e
    obtain ⟨n, _, ps, kd, hp⟩ := bb.funs.get hi
    exact fn n ps kd ((fun_keep (dx3 hi) (kp S8)).mpr hp)
  rintro fv H8 hy2 ⟨s8, ms, m1, m2⟩ D2 hD2
  rw [List.take_length] at m2
  refine ⟨D2, fv, rfl, .inl ⟨SqL.of upd_same, fun ft hft => ?_⟩⟩
  have s89 := (same_new hD2 (.lst fv)).trans (same_new hft (.tup fv))
  have s9 := s8.trans s89
  refine ⟨_, rfl, x, C, dx, _, rfl, s9 _ _ x7, T.cl, T.nF, flT_len _ _, ?_⟩
  have ft9 : (upd (upd H8 D2 (.lst fv)) ft (.tup fv)) ft = some (.tup fv) := upd_same
  generalize (upd (upd H8 D2 (.lst fv)) ft (.tup fv)) = G9 at s89 s9 ft9
  generalize hG10 : upd G9 x (.ins C dx (putF "kept_functions" (.ref ft) (flT kt tt))) = HA
  have xA : HA x = some (.ins C dx (flF kt tt ft)) := by rw [← hG10]; exact upd_same
  have S9A : SameX x G9 HA := by rw [← hG10]; exact SameX.upd x G9 _
  have K9A : Keep G9 HA := Keep.ofX S9A (s9 _ _ x7)
  have tA : HA tt = some (.tup tv) := K9A.tup _ _ (s9 _ _ t7)
  have fA : HA ft = some (.tup fv) := K9A.tup _ _ ft9
  have nA : Prd (KeptN HA) tv ns := KeptN.keep n7 ((Keep.of s9).trans K9A)
  have mA : Prd (KeptN HA) fv ms := KeptN.keep m1 ((Keep.of s89).trans K9A)
  have SA : SameX x H HA := (S7.same s9).trans S9A
  have tvl : tv.length = ns.length := n1.length
  have fvl : fv.length = ms.length := m1.length
  have nsl := n2.length
  have msl := m2.length
  have small : tv.length + fv.length ≤ sizeLine := Nat.le_trans (show tv.length + fv.length ≤ 8 by omega) (by decide)
  refine ⟨_, rfl, x, C, dx, _, _, rfl, xA, T.cl, T.nT, flF_ties _ _ _, _, rfl, x, C, dx, _, _, rfl, xA, T.cl, T.nF, flF_funs _ _ _, ?_⟩
  refine cat_of tA fA small fun p HB hp sB' => ?_
  refine ⟨p, rfl, ⟨_, SqT.of hp⟩, ?_⟩
  have rB : Prd (KeptN HB) (tv ++ fv) (ns ++ ms) := KeptN.keep (nA.append mA) (.of sB')
  intro cl C1 ex s0 H0
  refine comp_it1 (tv ++ fv).length (fun i ys HC => ys = ((ns ++ ms).take i).map V.str ∧ Same HB HC) (fun i y => (tv ++ fv)[i]? = some y) ⟨rfl, Same.refl _⟩ (by rw [List.length_append]; exact small) (fun i ys HC hi _ ⟨_, z⟩ => go_tup (SqT.of (z _ _ hp)) hi) (fun ys HC _ ⟨_, z⟩ => stop_tup (SqT.of (z _ _ hp))) ?_ ?_
  ·rintro i y ys HC hi hy _ ⟨rfl, sC'⟩
   obtain ⟨n, hn, py, r, rfl, hpy⟩ := rB.get hy
   refine ⟨_, rfl, py, _, _, _, rfl, rfl, SqT.of (sC' _ _ hpy), atI_int (x := V.str n) (by decide) rfl, ?_, sC'⟩
   rw [List.take_succ, hn]
   exact (List.map_append (l₂ := [n])).symm
  rintro ys HC hyl ⟨rfl, sC'⟩ D3 hD3
  rw [List.take_of_length_le (by rw [rB.length]; exact Nat.le_refl _)]
  refine ⟨D3, _, rfl, .inl upd_same, by simp; omega, fun hnd HD sD => ?_, fun hnd HD sD => no (fun ⟨_, _, _, _, _, bb⟩ => hnd ?_) _ (SA.same ((sB'.trans sC').trans ((same_new hD3 _).trans sD)))⟩
  ·exact q ⟨ks, xs, zs, ns, ms, hks, hr2, hr3, hl, n2, m2, hnd⟩ HD (SA.same ((sB'.trans sC').trans ((same_new hD3 _).trans sD)))
  ·have e := bb.r2; rw [hr2] at e; cases e
   have e := bb.r3; rw [hr3] at e; cases e
   have e := bb.kinds.uniq hks; subst e
   rw [Prd.uniq TieN.uniq n2 bb.ties, Prd.uniq FunN.uniq m2 bb.funs]
   exact bb.apart
end
end FewE

set_option Elab.async false
set_option linter.all false
set_option maxRecDepth 100000
set_option maxHeartbeats 1000000
namespace FewE
open PySem L2 Few
structure Pr (D W : Nat) (d : PyData) : Prop where
 sh : d.showable = true
 dp : d.depth ≤ D
 lv : d.leavesShort 8 = true
 wt : d.weight ≤ W
theorem Pr.mono {D D' W W' : Nat} {d : PyData} (h : Pr D W d) (h1 : D ≤ D') (h2 : W ≤ W') : Pr D' W' d := ⟨h.sh, Nat.le_trans h.dp h1, h.lv, Nat.le_trans h.wt h2⟩
theorem Pr.all {D W : Nat} : ∀ {ds : List PyData}, (∀ d ∈ ds, Pr D W d) → PyData.showableAll ds = true ∧ PyData.depthAll ds ≤ D ∧ PyData.leavesShortAll 8 ds = true ∧ PyData.weightAll ds ≤ ds.length * (W + 1)
 | [], _ => by simp [PyData.showableAll, PyData.depthAll, PyData.leavesShortAll, PyData.weightAll]
 | d :: r, h => by
  obtain ⟨a1, a3, a4, a5⟩ := Pr.all (ds := r) fun x hx => h x (List.mem_cons_of_mem _ hx)
  have p := h d List.mem_cons_self
  refine ⟨?_, ?_, ?_, ?_⟩
  ·simp only [PyData.showableAll, p.sh, a1, Bool.and_self]
  ·simp only [PyData.depthAll]
   have := p.dp
   omega
  ·simp only [PyData.leavesShortAll, p.lv, a4, Bool.and_self]
  ·simp only [PyData.weightAll, List.length_cons, Nat.add_mul]
   have := p.wt
   omega
theorem Pr.inv {D W : Nat} : ∀ {ds : List PyData}, PyData.showableAll ds = true → PyData.depthAll ds ≤ D → PyData.leavesShortAll 8 ds = true → PyData.weightAll ds ≤ W → ∀ d ∈ ds, Pr D W d
 | [], _, _, _, _, _, h => nomatch h
 | d :: r, h1, h2, h3, h4, x, hx => by
  simp only [PyData.showableAll, Bool.and_eq_true] at h1
  simp only [PyData.depthAll] at h2
  simp only [PyData.leavesShortAll, Bool.and_eq_true] at h3
  simp only [PyData.weightAll] at h4
  rcases List.mem_cons.mp hx with rfl | hx
  ·exact ⟨h1.1, by omega, h3.1, by omega⟩
  ·exact Pr.inv (ds := r) h1.2 (by omega) h3.2 (by omega) x hx
theorem Pr.fits {D W : Nat} {d : PyData} (h : Pr D W d) (hD : D ≤ 60) (hW : W ≤ 2 ^ 20) : d.showable = true ∧ d.depth ≤ 60 ∧ d.shown.length ≤ sizeLine :=
 ⟨h.sh, Nat.le_trans h.dp hD, PyData.shown_fits (B := 8) (by decide) (by decide) h.lv (Nat.le_trans h.wt hW)⟩
def ThR (R : Addr → Prop) (H : Hp) (n W : Nat) (v : V) : Prop := ∃ d, RdD R H v d ∧ Pr n W d
abbrev Th (p : Addr) (H : Hp) (n W : Nat) (v : V) : Prop := ThR (· ≠ p) H n W v
theorem ThR.reg {R R' : Addr → Prop} {H H' : Hp} {n W : Nat} {v : V} (h : ThR R H n W v) (hR : ∀ a, R a → R' a) (hH : ∀ a o, R a → H a = some o → H' a = some o) : ThR R' H' n W v := let ⟨d, r, q⟩ := h; ⟨d, r.mono hR hH, q⟩
theorem ThR.mono {R : Addr → Prop} {H : Hp} {n W n' W' : Nat} {v : V} (h : ThR R H n W v) (h1 : n ≤ n') (h2 : W ≤ W') : ThR R H n' W' v := let ⟨d, r, q⟩ := h; ⟨d, r, q.mono h1 h2⟩
theorem Th.sx {p : Addr} {H H' : Hp} {n W : Nat} {v : V} (h : Th p H n W v) (s : SameX p H H') : Th p H' n W v := let ⟨d, r, q⟩ := h; ⟨d, r.mono (fun _ z => z) fun a o z e => s a o z e, q⟩
theorem Th.same {p : Addr} {H H' : Hp} {n W : Nat} {v : V} (h : Th p H n W v) (s : Same H H') : Th p H' n W v := h.sx s.x
theorem things {R : Addr → Prop} {H : Hp} {n W : Nat} : ∀ {xs : List V}, (∀ x ∈ xs, ThR R H n W x) → ∃ ds, RdB R H xs ds ∧ (∀ d ∈ ds, Pr n W d) ∧ ds.length = xs.length
 | [], _ => ⟨[], .nil, (fun _ z => nomatch z), rfl⟩
 | x :: r, h => by
  obtain ⟨d, r1, q1⟩ := h x List.mem_cons_self
  obtain ⟨ds, r2, q2, l2⟩ := things (xs := r) fun y hy => h y (List.mem_cons_of_mem _ hy)
  refine ⟨d :: ds, .cons r1 r2, fun e he => ?_, by rw [List.length_cons, List.length_cons, l2]⟩
  rcases List.mem_cons.mp he with rfl | he
  ·exact q1
  ·exact q2 e he
theorem ThR.row {R : Addr → Prop} {H : Hp} {n W m : Nat} {a : Addr} {xs : List V} (ha : R a) (h : LT H a xs) (hx : ∀ x ∈ xs, ThR R H n W x) (hm : xs.length ≤ m) : ThR R H (n + 1) (m * (W + 1)) (.ref a) := by
 obtain ⟨ds, r, q, l⟩ := things hx
 obtain ⟨a1, a3, a4, a5⟩ := Pr.all q
 have := Nat.mul_le_mul_right (W + 1) (show ds.length ≤ m by omega)
 rcases h with h | h
 ·exact ⟨_, .lst ha h r, by simpa only [PyData.showable] using a1, by simp only [PyData.depth]; omega, by simpa only [PyData.leavesShort] using a4, by simp only [PyData.weight]; omega⟩
 ·exact ⟨_, .tup ha h r, by simpa only [PyData.showable] using a1, by simp only [PyData.depth]; omega, by simpa only [PyData.leavesShort] using a4, by simp only [PyData.weight]; omega⟩
theorem ThR.row' {R : Addr → Prop} {H : Hp} {n W m n' W' : Nat} {a : Addr} {xs : List V} (ha : R a) (h : LT H a xs) (hx : ∀ x ∈ xs, ThR R H n W x) (hm : xs.length ≤ m) (h1 : n + 1 ≤ n') (h2 : m * (W + 1) ≤ W') : ThR R H n' W' (.ref a) := (ThR.row ha h hx hm).mono h1 h2
theorem RdB.mem {R : Addr → Prop} {H : Hp} : ∀ {xs : List V} {ds : List PyData}, RdB R H xs ds → ∀ x ∈ xs, ∃ d ∈ ds, RdD R H x d
 | _, _, .nil, _, h => nomatch h
 | _, _, .cons a b, x, h => by
  rcases List.mem_cons.mp h with rfl | h
  ·exact ⟨_, List.mem_cons_self, a⟩
  ·obtain ⟨d, h1, h2⟩ := RdB.mem b x h
   exact ⟨d, List.mem_cons_of_mem _ h1, h2⟩
theorem ThR.elem {R : Addr → Prop} {H : Hp} {n W : Nat} {a : Addr} {xs : List V} (h : ThR R H n W (.ref a)) (hl : LT H a xs) : R a ∧ ∀ x ∈ xs, ThR R H n W x := by
 obtain ⟨d, r, q⟩ := h
 cases r with
 | lst ra e z =>
  obtain rfl := LT.len (.inl e) hl
  refine ⟨ra, fun x hx => ?_⟩
  obtain ⟨d, hd, rd⟩ := RdB.mem z x hx
  exact ⟨d, rd, Pr.inv (by simpa only [PyData.showable] using q.sh) (by have := q.dp; simp only [PyData.depth] at this; omega) (by simpa only [PyData.leavesShort] using q.lv) (by simpa only [PyData.weight] using q.wt) d hd⟩
 | tup ra e z =>
  obtain rfl := LT.len (.inr e) hl
  refine ⟨ra, fun x hx => ?_⟩
  obtain ⟨d, hd, rd⟩ := RdB.mem z x hx
  exact ⟨d, rd, Pr.inv (by simpa only [PyData.showable] using q.sh) (by have := q.dp; simp only [PyData.depth] at this; omega) (by simpa only [PyData.leavesShort] using q.lv) (by simpa only [PyData.weight] using q.wt) d hd⟩
 | d0 ra e => rcases hl with hl | hl <;> (rw [e] at hl; cases hl)
 | d1 ra e => rcases hl with hl | hl <;> (rw [e] at hl; cases hl)
theorem ThR.sh {R : Addr → Prop} {H : Hp} {n W : Nat} {v : V} (h : ThR R H n W v) (hW : W ≤ sizeLine) : Sh H v := by
 obtain ⟨d, r, q⟩ := h
 cases r with
 | non => exact .non
 | bl b => exact .bl b
 | int i => exact .int i
 | str x => exact .str x (by have := q.wt; simp only [PyData.weight] at this; exact Nat.le_trans this hW)
 | lst _ e _ => exact .row (.inl e)
 | tup _ e _ => exact .row (.inr e)
 | d0 _ e => exact .dct e
 | d1 _ e => exact .dct e
theorem ThR.dat {R : Addr → Prop} {H : Hp} {n W : Nat} (hW : W ≤ sizeLine) : ∀ (m : Nat) {v : V}, ThR R H n W v → Dat m H v
 | 0, _, h => h.sh hW
 | m + 1, _, h => ⟨h.sh hW, fun xs e x hx => by
   obtain ⟨a, rfl, hl⟩ := rowOf.lt e
   exact ThR.dat hW m ((h.elem hl).2 x hx)⟩
theorem ThR.ofStr {R : Addr → Prop} {H : Hp} {z : Str} {n : Nat} (h1 : ∀ c ∈ z.cps.toList, c < 16 ^ 8) (h2 : z.cps.size ≤ n) : ThR R H 0 n (.str z) :=
 ⟨_, .str z, rfl, by simp [PyData.depth], by simp only [PyData.leavesShort, List.all_eq_true, decide_eq_true_eq]; exact h1, h2⟩
theorem Th.name {p : Addr} {H : Hp} {n W : Nat} {z : Str} (h : Th p H n W (.str z)) (hn : isN z) : Th p H 0 12 (.str z) := by
 obtain ⟨d, r, q⟩ := h
 cases r
 refine ⟨_, .str z, rfl, by simp [PyData.depth], q.lv, ?_⟩
 have := hn.2.1
 simpa [PyData.weight] using this
end FewE

set_option Elab.async false
set_option linter.all false
set_option maxRecDepth 100000
set_option maxHeartbeats 1000000
namespace FewE
open PySem L2 Few
theorem pe_defEN {X : Cx} {x : Str} {k : Nat} {ps : List Str} {sp : Sp} {p pos : Pos} {e : Expr} {es : List Expr} {t : TA} (D : DefE X.prog X.w X.K X.mg X.base x k ps sp) (hr : Room k X.A) (hg : Gl X x) (ha : PA X (e :: es) t)
  (hdb : (x == ("__debug__" : Str)) = false := by decide) (he : starEach (e :: es) X.env = (false, eval e X.env) :: starEach es X.env := by rfl) (hpl : (backTo pos (starEach es X.env)).any (·.1) = false := by rfl) :
  PE X (.Call (.Name x p) (e :: es) [] pos) (tCall sp [] E0 t) := by
 obtain ⟨f, fd, hm, hk, hb, F⟩ := D
 exact pe_call F hr hg hm hk hb .nil (fun _ _ _ _ _ _ _ ⟨_, _, _, _, _, _, _, _, _, _, _, z⟩ => z.elim) ha hdb he hpl
theorem enum_comp {K : PySem.W.Frag} {a : Addr} {xs : List V} {te : TE} {σ : St} {H : Hp} {Q : VK} (ha : H a = some (.lst xs)) (hz : xs.length ≤ sizeLine) (Pv : Nat → List V → Hp → Prop) (h0 : Pv 0 [] H) (hk : ∀ i ys H1, Pv i ys H1 → Same H H1)
  (hs : ∀ i x ys H1 H2, xs[i]? = some x → ys.length = i → Pv i ys H1 → Same H1 H2 → te (some (.int i) :: some x :: σ) H2 fun v H3 => Pv (i + 1) (ys ++ [v]) H3)
  (hd : ∀ ys H1, ys.length = xs.length → Pv xs.length ys H1 → ∀ D, H1 D = none → Q (.ref D) (upd H1 D (.lst ys))) : CompOk 2 (Ite K a) (gTup K 2 (gCons (gName 0) (gCons (gName 1) gNil))) te σ H Q := by
 refine ⟨fun i m ys σ' H1 => m = xs.length - i ∧ i ≤ xs.length ∧ ys.length = i ∧ (∃ o1 o2, σ' = o1 :: o2 :: σ) ∧ Pv i ys H1, ⟨xs.length, by simp, Nat.zero_le _, rfl, ⟨none, none, rfl⟩, h0⟩, ?_⟩
 rintro i m ys σ' H1 ⟨rfl, hi, hy, ⟨o1, o2, rfl⟩, p⟩
 have e1 : SqL K H1 a xs := SqL.of (hk i ys H1 p a _ ha)
 by_cases hlt : i < xs.length
 ·refine .inr ⟨⟨xs, xs[i], e1, by simp [hlt]⟩, by omega, fun x H' y => ?_⟩
  obtain ⟨pp, z, hn, rfl, rfl, hz'⟩ := y
  have hzi := hz' xs e1
  refine ⟨pp, [.int i, z], rfl, SqT.of upd_same, rfl, _, _, rfl, _, _, rfl, rfl, ?_⟩
  exact ⟨fun v H3 => Pv (i + 1) (ys ++ [v]) H3, hs i z ys H1 _ hzi hy p (same_new hn _), fun v H3 h3 => ⟨xs.length - (i + 1), by omega, rfl, hlt, by simp [hy], ⟨_, _, rfl⟩, h3⟩⟩
 ·obtain rfl : i = xs.length := by omega
  exact .inl ⟨⟨xs, e1, Nat.le_refl _⟩, hd ys H1 hy p⟩
theorem enum_compF {K : PySem.W.Frag} {a : Addr} {xs : List V} {tc : TT} {te : TE} {σ : St} {H : Hp} {Q : VK} (ha : H a = some (.lst xs)) (hz : xs.length ≤ sizeLine) (Pv : Nat → List V → Hp → Prop) (h0 : Pv 0 [] H) (hk : ∀ i ys H1, Pv i ys H1 → Same H H1)
  (hs : ∀ i x ys H1 H2, xs[i]? = some x → Pv i ys H1 → Same H1 H2 → ∀ k : Bool → Hp → Prop, (∀ b H3, (if b = true then te (some (.int i) :: some x :: σ) H3 fun v H4 => Pv (i + 1) (ys ++ [v]) H4 else Pv (i + 1) ys H3) → k b H3) → tc (some (.int i) :: some x :: σ) H2 k)
  (hd : ∀ ys H1, Pv xs.length ys H1 → ∀ D, H1 D = none → Q (.ref D) (upd H1 D (.lst ys))) : CompOkF 2 (Ite K a) (gTup K 2 (gCons (gName 0) (gCons (gName 1) gNil))) tc te σ H Q := by
 refine ⟨fun i m ys σ' H1 => m = xs.length - i ∧ i ≤ xs.length ∧ ys.length ≤ i ∧ (∃ o1 o2, σ' = o1 :: o2 :: σ) ∧ Pv i ys H1, ⟨xs.length, by simp, Nat.zero_le _, Nat.le_refl _, ⟨none, none, rfl⟩, h0⟩, ?_⟩
 rintro i m ys σ' H1 ⟨rfl, hi, hy, ⟨o1, o2, rfl⟩, p⟩
 have e1 : SqL K H1 a xs := SqL.of (hk i ys H1 p a _ ha)
 by_cases hlt : i < xs.length
 ·refine .inr ⟨⟨xs, xs[i], e1, by simp [hlt]⟩, by omega, fun x H' y => ?_⟩
  obtain ⟨pp, z, hn, rfl, rfl, hz'⟩ := y
  have hzi := hz' xs e1
  refine ⟨pp, [.int i, z], rfl, SqT.of upd_same, rfl, _, _, rfl, _, _, rfl, rfl, ?_⟩
  refine hs i z ys H1 _ hzi p (same_new hn _) _ fun b H3 => ?_
  cases b
  ·rw [if_neg Bool.false_ne_true, if_neg Bool.false_ne_true]
   exact fun h => ⟨xs.length - (i + 1), by omega, rfl, hlt, by omega, ⟨_, _, rfl⟩, h⟩
  ·rw [if_pos rfl, if_pos rfl]
   exact fun h => ⟨_, h, fun v H4 h4 => ⟨xs.length - (i + 1), by omega, rfl, hlt, by simp; omega, ⟨_, _, rfl⟩, h4⟩⟩
 ·obtain rfl : i = xs.length := by omega
  exact .inl ⟨⟨xs, e1, Nat.le_refl _⟩, hd ys H1 p⟩
end FewE

set_option Elab.async false
set_option linter.all false
set_option maxRecDepth 100000
set_option maxHeartbeats 1000000
namespace FewE
open PySem L2 Few
theorem zht : ((Str.ofString "_law_sign_here" : Str) == ("__debug__" : Str)) = false := by decide +kernel
theorem zhu : ((Str.ofString "_law_sign_here" : Str) == ("__classdict__" : Str)) = false := by decide +kernel
theorem zhv : ((Str.ofString "_law_thing" : Str) == ("__debug__" : Str)) = false := by decide +kernel
theorem zhw : ((Str.ofString "_law_thing" : Str) == ("__classdict__" : Str)) = false := by decide +kernel
section
variable {P : Program} {w : World} {K : PySem.W.Frag} {mg : Str → Option Value} {base : Heap}
abbrev s_law_row : Stmt := top 40
theorem zhx : FnScope ["_law_thing"] ["_law_thing"] (defScope s_law_row) := ⟨rfl, rfl, rfl, by decide +kernel, rfl, by decide +kernel, by decide +kernel⟩
theorem zhy : (defScope s_law_row).names.lookup (Str.ofString "_law_thing") = some NameKind.local := by decide +kernel
theorem zhz : (defScope s_law_row).names.lookup (Str.ofString "isinstance") = some NameKind.globalImplicit := by decide +kernel
theorem zh0 : (defScope s_law_row).names.lookup (Str.ofString "list") = some NameKind.globalImplicit := by decide +kernel
theorem zh1 : (defScope s_law_row).names.lookup (Str.ofString "tuple") = some NameKind.globalImplicit := by decide +kernel
theorem ok_row (F : FunAt K mg "_law_row" s_law_row ["_law_thing"]) (Z : Bl mg) : DefE P w K mg base "_law_row" 1 ["_law_thing"] spIsList := by
 have SC := zhx
 refine F.mkE (k := 0) zhx (fun vs H Q E h => ?_) (fun f cdv A outer s H vs Q E hr h => ?_)
 ·obtain ⟨v, rfl, _⟩ := h
  rfl
 ·obtain ⟨v, rfl, hv, q⟩ := h
  refine' ⟨_, ?derivation, ?_⟩
  case derivation =>
   refine' pss_one ?ka
   case ka =>
    refine' ps_ret ?kb
    case kb =>
     refine' pe_callB (hn := zd9) (hdb := zd8) ?kc ?kd ?ke ?kf ?kg ?kh ?ki
     case kc => exact (call_isi2 (T := "list") (U := "tuple"))
     case kd => exact zhz
     case ke => exact Z.n_isinstance
     case kf => exact bt_isinstance
     case kg =>
      refine' pa_cons ?kj ?kk ?kl
      case kj => exact (pq 0 (visL zhy) zhv zhw)
      case kk =>
       refine' pa_cons ?km pa_nil ?kn
       case km =>
        refine' pe_tup ?ko
        case ko =>
         refine' pa_cons ?kp ?kq ?kr
         case kp =>
          refine' pe_bltn (v := V.ty "list") (hn := zby) (hd := zbx) ?ks ?kt ?ku ?kv
          case ks => exact zh0
          case kt => exact Z.n_list
          case ku => exact bt_list
          case kv => exact rfl
         case kq =>
          refine' pa_cons ?kw pa_nil ?kx
          case kw =>
           refine' pe_bltn (v := V.ty "tuple") (hn := zev) (hd := zeu) ?ky ?kz ?kba ?kbb
           case ky => exact zh1
           case kz => exact Z.n_tuple
           case kba => exact bt_tuple
           case kbb => exact rfl
          case kx => rfl
         case kr => rfl
       case kn => rfl
      case kl => rfl
     case kh => rfl
     case ki => rfl
  refine ⟨_, rfl, by show 2 ≤ sizeLine; decide, fun t ht => ?_⟩
  have st := same_new ht (.tup [.ty "list", .ty "tuple"])
  obtain ⟨ty, hty, hk⟩ := (hv.same st).isi2 (K := K)
  rw [hv.rows st] at hk
  exact ⟨_, t, ty, _, rfl, upd_same, hty, hk, q _ st⟩
abbrev s_law_name : Stmt := top 41
theorem zh2 : FnScope ["_law_thing"] ["_law_thing"] (defScope s_law_name) := ⟨rfl, rfl, rfl, by decide +kernel, rfl, by decide +kernel, by decide +kernel⟩
theorem zh3 : (defScope s_law_name).names.lookup (Str.ofString "_law_thing") = some NameKind.local := by decide +kernel
theorem zh4 : (defScope s_law_name).names.lookup (Str.ofString "all") = some NameKind.globalImplicit := by decide +kernel
theorem zh5 : (defScope s_law_name).names.lookup (Str.ofString "isinstance") = some NameKind.globalImplicit := by decide +kernel
theorem zh6 : (defScope s_law_name).names.lookup (Str.ofString "len") = some NameKind.globalImplicit := by decide +kernel
theorem zh7 : (defScope s_law_name).names.lookup (Str.ofString "str") = some NameKind.globalImplicit := by decide +kernel
theorem zh8 : CompSc 1 ["_law_sign_here", "_law_thing"] ["_law_thing"] (defScope s_law_name) { kind := PySem.ScopeKind.function, names := [(PySem.Str.ofString ".0", PySem.NameKind.local), (PySem.Str.ofString "_law_sign_here", PySem.NameKind.local)], isGenerator := false, isCoroutine := false, more := [] : PySem.Scope } := ⟨rfl, by decide +kernel, by decide +kernel, by decide +kernel, by decide +kernel, rfl, by decide +kernel⟩
theorem zh9 : ({ kind := PySem.ScopeKind.function, names := [(PySem.Str.ofString ".0", PySem.NameKind.local), (PySem.Str.ofString "_law_sign_here", PySem.NameKind.local)], isGenerator := false, isCoroutine := false, more := [] : PySem.Scope } : Scope).names.lookup (Str.ofString "_law_sign_here") = some NameKind.local := by decide +kernel
theorem ok_name (F : FunAt K mg "_law_name" s_law_name ["_law_thing"]) (Z : Bl mg) : DefE P w K mg base "_law_name" 1 ["_law_thing"] spIsName := by
 have SC := zh2
 refine F.mkE (k := 0) zh2 (fun vs H Q E h => ?_) (fun f cdv A outer s H vs Q E hr h => ?_)
 ·obtain ⟨v, rfl, _⟩ := h
  rfl
 ·obtain ⟨v, rfl, hv, q⟩ := h
  have fin : ∀ b, (b = true ↔ NmV v) → ∀ H', Same H H' → Q (.bl b) H' := fun b hb H' s => by
   have e : b = tr (NmV v) := by
    cases b
    ·rw [tr_no]; exact fun z => Bool.noConfusion (hb.mpr z)
    ·rw [tr_of (hb.mp rfl)]
   rw [e]; exact q H' s
  refine' ⟨_, ?derivation, ?_⟩
  case derivation =>
   refine' pss_cons ?ka ?kb
   case ka =>
    refine' ps_if ?kc ?kd pss_nil
    case kc =>
     refine' PW.pt ?ke
     case ke =>
      refine' pw_or ?kf ?kg
      case kf =>
       refine' pt_not ?kh
       case kh =>
        refine' pt_val ?ki ?kj
        case ki =>
         refine' pe_callB (hn := zd9) (hdb := zd8) ?kk ?kl ?km ?kn ?ko ?kp ?kq
         case kk => exact (call_isiT (T := "str"))
         case kl => exact zh5
         case km => exact Z.n_isinstance
         case kn => exact bt_isinstance
         case ko =>
          refine' pa_cons ?kr ?ks ?kt
          case kr => exact (pq 0 (visL zh3) zhv zhw)
          case ks =>
           refine' pa_cons ?ku pa_nil ?kv
           case ku =>
            refine' pe_bltn (v := V.ty "str") (hn := zep) (hd := zeo) ?kw ?kx ?ky ?kz
            case kw => exact zh7
            case kx => exact Z.n_str
            case ky => exact bt_str
            case kz => exact rfl
           case kv => rfl
          case kt => rfl
         case kp => rfl
         case kq => rfl
        case kj => intro _; rfl
      case kg =>
       refine' pw_or1 ?kba
       case kba =>
        refine' pt_not ?kbb
        case kbb =>
         refine' pt_chain ?kbc ?kbd ?kbe ?kbf ?kbg ?kbh
         case kbc => exact op_le
         case kbd => exact op_le
         case kbe => exact pe_int
         case kbf =>
          refine' pe_callB (hn := zbw) (hdb := zbv) ?kbi ?kbj ?kbk ?kbl ?kbm ?kbn ?kbo
          case kbi => exact call_len_str
          case kbj => exact zh6
          case kbk => exact Z.n_len
          case kbl => exact bt_len
          case kbm =>
           refine' pa_cons ?kbp pa_nil ?kbq
           case kbp => exact (pq 0 (visL zh3) zhv zhw)
           case kbq => rfl
          case kbn => rfl
          case kbo => rfl
         case kbg => exact pe_int
         case kbh => with_unfolding_all rfl
    case kd =>
     refine' pss_one ?kbr
     case kbr =>
      refine' ps_ret ?kbs
      case kbs => exact pe_bl
   case kb =>
    refine' pss_one ?kbt
    case kbt =>
     refine' ps_ret ?kbu
     case kbu =>
      refine' pe_callB (hn := zdz) (hdb := zdy) ?kbv ?kbw ?kbx ?kby ?kbz ?kca ?kcb
      case kbv => exact (call_allB rfl)
      case kbw => exact zh4
      case kbx => exact Z.n_all
      case kby => exact bt_all
      case kbz =>
       refine' pa_cons ?kcc pa_nil ?kcd
       case kcc =>
        refine' pe_compE framed_of ?kce ?kcf ?kcg ?kch ?kci ?kcj
        case kce => exact rfl
        case kcf => exact zh8.at
        case kcg =>
         refine' pi_str ?kck
         case kck => exact (pq 0 (visL zh3) zhv zhw)
        case kch =>
         intro _ _ _ _ _
         refine' pg_name (i := 0) ?kcl ?kcm ?kcn ?kco
         case kcl => exact zh8.nd
         case kcm => exact rfl
         case kcn => exact (locO zh9)
         case kco => exact (.inr (lookup_relabel_local zh9))
        case kci =>
         intro _ _ _ _ _
         refine' pe_cmpR ?kcp ?kcq ?kcr ?kcs
         case kcp => exact op_in_str
         case kcq => exact (pq 0 (visO zh9) zht zhu)
         case kcr => exact pe_str
         case kcs => exact (by with_unfolding_all rfl)
        case kcj => intro _; rfl
       case kcd => rfl
      case kca => rfl
      case kcb => rfl
  obtain ⟨ty, hty, hk⟩ := hv.isS (K := K)
  refine ⟨_, rfl, _, _, _, rfl, hty, hk, ?_⟩
  by_cases hs : isStr v = true
  ·obtain ⟨z, rfl⟩ := isStr.ex hs
   have hz := str_len z
   have hcs : z.cps.size = z.cps.toList.length := by simp
   refine ⟨true, rfl, iteF ?_⟩
   refine ⟨_, rfl, _, rfl, hv.len, _, _, rfl, rfl, _, rfl, ?_⟩
   by_cases h1 : 1 ≤ z.cps.toList.length
   ·refine ifT (decide_eq_true (by omega)) ?_
    refine ⟨_, _, rfl, rfl, _, rfl, ?_⟩
    by_cases h2 : z.cps.toList.length ≤ 12
    ·refine ifF (by simp; omega) ?_
     refine ⟨_, rfl, z, rfl, ?_⟩
     intro cl C ex s0 H0
     refine comp_it1 z.cps.size (fun i ys H1 => ys = ((z.cps.toList.take i).map let1).map V.bl ∧ H1 = H) (fun i x => ∃ c, z.cps[i]? = some c ∧ x = .str ⟨#[c]⟩) ⟨rfl, rfl⟩ (Nat.le_trans (show z.cps.size ≤ 12 by omega) (by decide)) (fun i ys H1 hi _ _ => go_str hi) (fun ys H1 _ _ => stop_str) ?_ ?_
     ·rintro i x ys H1 hi ⟨c, hc, rfl⟩ hy ⟨rfl, rfl⟩
      have hm : z.cps.toList[i]? = some c := by simpa using hc
      refine ⟨_, rfl, _, _, rfl, rfl, ?_, rfl⟩
      rw [List.take_succ, hm]
      show _ = List.map V.bl (List.map let1 (List.take i z.cps.toList ++ [c]))
      rw [List.map_append, List.map_append]
      rfl
     ·rintro ys H1 hy ⟨rfl, rfl⟩ D hD
      refine ⟨D, (z.cps.toList.take z.cps.size).map let1, rfl, SqL.of upd_same, fin _ ?_ _ (same_new hD _)⟩
      rw [List.take_of_length_le (by omega), nm_str, List.all_map, List.all_eq_true]
      exact ⟨fun h => ⟨h1, h2, h⟩, fun h => h.2.2⟩
    ·refine ifT (by simp; omega) ?_
     exact fin false ⟨fun z => Bool.noConfusion z, fun z => absurd (nm_str.mp z).2.1 h2⟩ _ (Same.refl _)
   ·refine ifF (by simp; omega) ?_
    exact ⟨false, rfl, iteT (fin false ⟨fun z => Bool.noConfusion z, fun z => absurd (nm_str.mp z).1 h1⟩ _ (Same.refl _))⟩
  ·have hs : isStr v = false := by simpa using hs
   refine ⟨false, by rw [hs], iteT ?_⟩
   refine fin false ⟨fun z => Bool.noConfusion z, fun ⟨z, e, _⟩ => ?_⟩ _ (Same.refl _)
   rw [e] at hs; cases hs
end
end FewE

set_option Elab.async false
set_option linter.all false
set_option maxRecDepth 100000
set_option maxHeartbeats 1000000
namespace FewE
open PySem L2 Few
theorem zia : ((Str.ofString "_law_kind" : Str) == ("__debug__" : Str)) = false := by decide +kernel
theorem zib : ((Str.ofString "_law_kind" : Str) == ("__classdict__" : Str)) = false := by decide +kernel
theorem zic : ((Str.ofString "_law_name" : Str) == ("__debug__" : Str)) = false := by decide +kernel
theorem zid : ((Str.ofString "_law_named" : Str) == ("__debug__" : Str)) = false := by decide +kernel
theorem zie : ((Str.ofString "_law_named" : Str) == ("__classdict__" : Str)) = false := by decide +kernel
theorem zif : ((Str.ofString "_law_row" : Str) == ("__debug__" : Str)) = false := by decide +kernel
def InKs (ks : List Str) (v : V) : Prop := ∃ s, s ∈ ks ∧ v = .str s
def SgnRow (H : Hp) (ks : List Str) (v : V) (m : Nat) (nm : Str) : Prop := ∃ x y r ps, rowOf H v = some (x :: y :: r) ∧ r.length + 2 = m ∧ SgnV x nm ∧ rowOf H y = some ps ∧ ps.length ≤ 2 ∧ ∀ k ∈ ps ++ r, InKs ks k
theorem ink_strs {ks : List Str} : ∀ {xs : List V}, (∀ k ∈ xs, InKs ks k) → ∃ ps : List Str, xs = ps.map V.str ∧ ∀ k ∈ ps, k ∈ ks
 | [], _ => ⟨[], rfl, fun _ z => nomatch z⟩
 | x :: r, h => by
  obtain ⟨s, hs, e⟩ := h x List.mem_cons_self
  obtain ⟨ps, e2, h2⟩ := ink_strs (xs := r) fun y hy => h y (List.mem_cons_of_mem _ hy)
  refine ⟨s :: ps, by rw [e, e2]; rfl, fun k hk => ?_⟩
  rcases List.mem_cons.mp hk with rfl | hk
  ·exact hs
  ·exact h2 k hk
theorem row_tie {H : Hp} {ks : List Str} {v : V} {nm : Str} (hn : ∀ k ∈ ks, isN k) : SgnRow H ks v 2 nm ↔ TieN H ks v nm := by
 constructor
 ·rintro ⟨x, y, r, ps, e, l, s, e2, l2, h⟩
  obtain rfl : r = [] := List.eq_nil_of_length_eq_zero (by omega)
  obtain ⟨qs, rfl, h2⟩ := ink_strs (xs := ps) fun k hk => h k (by simp [hk])
  rw [List.length_map] at l2
  exact ⟨qs, x, y, e, s, e2, l2, fun k hk => ⟨hn k (h2 k hk), h2 k hk⟩⟩
 ·rintro ⟨ps, x, y, e, s, e2, l2, h⟩
  refine ⟨x, y, [], _, e, rfl, s, e2, by rw [List.length_map]; exact l2, fun k hk => ?_⟩
  rw [List.append_nil] at hk
  obtain ⟨s, hs, rfl⟩ := List.mem_map.mp hk
  exact ⟨s, (h s hs).2, rfl⟩
theorem row_fun {H : Hp} {ks : List Str} {v : V} {nm : Str} (hn : ∀ k ∈ ks, isN k) : SgnRow H ks v 3 nm ↔ FunN H ks v nm := by
 constructor
 ·rintro ⟨x, y, r, ps, e, l, s, e2, l2, h⟩
  obtain ⟨z, rfl⟩ : ∃ z, r = [z] := by
   match r, l with
   | [z], _ => exact ⟨z, rfl⟩
  obtain ⟨qs, rfl, h2⟩ := ink_strs (xs := ps) fun k hk => h k (by simp [hk])
  obtain ⟨kd, hkd, rfl⟩ := h z (by simp)
  rw [List.length_map] at l2
  exact ⟨qs, kd, x, y, _, e, s, ⟨e2, l2, fun k hk => ⟨hn k (h2 k hk), h2 k hk⟩⟩, rfl, hn kd hkd, hkd⟩
 ·rintro ⟨ps, kd, x, y, z, e, s, ⟨e2, l2, h⟩, rfl, _, hkd⟩
  refine ⟨x, y, [.str kd], _, e, rfl, s, e2, by rw [List.length_map]; exact l2, fun k hk => ?_⟩
  rcases List.mem_append.mp hk with hk | hk
  ·obtain ⟨s, hs, rfl⟩ := List.mem_map.mp hk
   exact ⟨s, (h s hs).2, rfl⟩
  ·rw [List.mem_singleton.mp hk]; exact ⟨kd, hkd, rfl⟩
theorem at0 {x : V} {r : List V} : atI (x :: r) 0 = some x := atI_int (by decide) rfl
theorem at1 {x y : V} {r : List V} : atI (x :: y :: r) 1 = some y := atI_int (by decide) rfl
theorem at2 {x y z : V} {r : List V} : atI (x :: y :: z :: r) 2 = some z := atI_int (by decide) rfl
theorem cut2 {x y : V} {r : List V} : cutV (x :: y :: r) (some 2) none = r := by
 unfold cutV
 rw [show HT.sIx (x :: y :: r).length 0 (some 2) = 2 from (HT.sIx_nat _ 0 2).trans (by simp), HT.sIx_none]
 simp
theorem LT.cut2 {K : PySem.W.Frag} {H : Hp} {b : Addr} {x y : V} {r : List V} {Q : VK} (h : LT H b (x :: y :: r)) (q : ∀ u H', LT H' u r → Same H H' → Q (.ref u) H') : rSlS K (.ref b) (some 2) none H Q := by
 rcases h with h | h
 ·exact .inl ⟨b, _, rfl, SqL.of h, fun p hp => q p _ (.inl (by rw [FewE.cut2]; exact upd_same)) (same_new hp _)⟩
 ·refine .inr (.inl ⟨b, _, rfl, SqT.of h, ?_, fun p hp => q p _ (.inr (by rw [FewE.cut2]; exact upd_same)) (same_new hp _)⟩)
  rw [show HT.sIx (x :: y :: r).length 0 (some 2) = 2 from (HT.sIx_nat _ 0 2).trans (by simp)]
  simp
theorem tr_iff {b : Bool} {p : Prop} (h : b = true ↔ p) : b = tr p := by
 cases b
 ·rw [tr_no]; exact fun z => Bool.noConfusion (h.mpr z)
 ·rw [tr_of (h.mp rfl)]
section
variable {P : Program} {w : World} {K : PySem.W.Frag} {mg : Str → Option Value} {base : Heap}
abbrev s_law_sign : Stmt := top 42
theorem zig : FnScope ["_law_kinds", "_law_thing", "_law_many", "_law_named"] ["_law_kinds", "_law_thing", "_law_many"] (defScope s_law_sign) := ⟨rfl, rfl, rfl, by decide +kernel, rfl, by decide +kernel, by decide +kernel⟩
theorem zih : (defScope s_law_sign).names.lookup (Str.ofString "_law_many") = some NameKind.local := by decide +kernel
theorem zii : (defScope s_law_sign).names.lookup (Str.ofString "_law_name") = some NameKind.globalImplicit := by decide +kernel
theorem zij : (defScope s_law_sign).names.lookup (Str.ofString "_law_named") = some NameKind.local := by decide +kernel
theorem zik : (defScope s_law_sign).names.lookup (Str.ofString "_law_row") = some NameKind.globalImplicit := by decide +kernel
theorem zil : (defScope s_law_sign).names.lookup (Str.ofString "_law_thing") = some NameKind.local := by decide +kernel
theorem zim : (defScope s_law_sign).names.lookup (Str.ofString "all") = some NameKind.globalImplicit := by decide +kernel
theorem zin : (defScope s_law_sign).names.lookup (Str.ofString "len") = some NameKind.globalImplicit := by decide +kernel
theorem zio : (defScope s_law_sign).names.lookup (Str.ofString "list") = some NameKind.globalImplicit := by decide +kernel
theorem ziq : CompSc 1 ["_law_kind", "_law_kinds", "_law_thing", "_law_many", "_law_named"] ["_law_kinds", "_law_thing", "_law_many", "_law_named"] (defScope s_law_sign) { kind := PySem.ScopeKind.function, names := [ (PySem.Str.ofString ".0", PySem.NameKind.local), (PySem.Str.ofString "_law_kind", PySem.NameKind.local), (PySem.Str.ofString "isinstance", PySem.NameKind.globalImplicit), (PySem.Str.ofString "str", PySem.NameKind.globalImplicit), (PySem.Str.ofString "_law_kinds", PySem.NameKind.free)], isGenerator := false, isCoroutine := false, more := [] : PySem.Scope } := ⟨rfl, by decide +kernel, by decide +kernel, by decide +kernel, by decide +kernel, rfl, by decide +kernel⟩
theorem zir : ({ kind := PySem.ScopeKind.function, names := [ (PySem.Str.ofString ".0", PySem.NameKind.local), (PySem.Str.ofString "_law_kind", PySem.NameKind.local), (PySem.Str.ofString "isinstance", PySem.NameKind.globalImplicit), (PySem.Str.ofString "str", PySem.NameKind.globalImplicit), (PySem.Str.ofString "_law_kinds", PySem.NameKind.free)], isGenerator := false, isCoroutine := false, more := [] : PySem.Scope } : Scope).names.lookup (Str.ofString "_law_kind") = some NameKind.local := by decide +kernel
theorem zis : ({ kind := PySem.ScopeKind.function, names := [ (PySem.Str.ofString ".0", PySem.NameKind.local), (PySem.Str.ofString "_law_kind", PySem.NameKind.local), (PySem.Str.ofString "isinstance", PySem.NameKind.globalImplicit), (PySem.Str.ofString "str", PySem.NameKind.globalImplicit), (PySem.Str.ofString "_law_kinds", PySem.NameKind.free)], isGenerator := false, isCoroutine := false, more := [] : PySem.Scope } : Scope).names.lookup (Str.ofString "_law_kinds") = some NameKind.free := by decide +kernel
theorem zit : ({ kind := PySem.ScopeKind.function, names := [ (PySem.Str.ofString ".0", PySem.NameKind.local), (PySem.Str.ofString "_law_kind", PySem.NameKind.local), (PySem.Str.ofString "isinstance", PySem.NameKind.globalImplicit), (PySem.Str.ofString "str", PySem.NameKind.globalImplicit), (PySem.Str.ofString "_law_kinds", PySem.NameKind.free)], isGenerator := false, isCoroutine := false, more := [] : PySem.Scope } : Scope).names.lookup (Str.ofString "isinstance") = some NameKind.globalImplicit := by decide +kernel
theorem ziu : ({ kind := PySem.ScopeKind.function, names := [ (PySem.Str.ofString ".0", PySem.NameKind.local), (PySem.Str.ofString "_law_kind", PySem.NameKind.local), (PySem.Str.ofString "isinstance", PySem.NameKind.globalImplicit), (PySem.Str.ofString "str", PySem.NameKind.globalImplicit), (PySem.Str.ofString "_law_kinds", PySem.NameKind.free)], isGenerator := false, isCoroutine := false, more := [] : PySem.Scope } : Scope).names.lookup (Str.ofString "str") = some NameKind.globalImplicit := by decide +kernel
def spSign : Sp := fun vs H Q _ => ∃ (a : Addr) (ks : List Str) (v : V) (m : Nat), vs = [.ref a, v, .int m] ∧ 2 ≤ m ∧ m ≤ 3 ∧ LT H a (ks.map V.str) ∧ Dat 2 H v ∧ ∀ H', Same H H' → Q (.bl (tr (∃ nm, SgnRow H ks v m nm))) H'
theorem ok_sign (F : FunAt K mg "_law_sign" s_law_sign ["_law_kinds", "_law_thing", "_law_many"]) (Z : Bl mg) (D_law_row : DefE P w K mg base "_law_row" 1 ["_law_thing"] spIsList) (D_law_name : DefE P w K mg base "_law_name" 1 ["_law_thing"] spIsName) :
  DefE P w K mg base "_law_sign" 2 ["_law_kinds", "_law_thing", "_law_many"] spSign := by
 have SC := zig
 refine F.mkE (k := 1) zig (fun vs H Q E h => ?_) (fun f cdv A outer s H vs Q E hr h => ?_)
 ·obtain ⟨a, ks, v, m, rfl, _⟩ := h
  rfl
 ·obtain ⟨a, ks, v, m, rfl, hm2, hm3, hL, hd, q⟩ := h
  have fin : ∀ b, (b = true ↔ ∃ nm, SgnRow H ks v m nm) → ∀ H', Same H H' → Q (.bl b) H' := fun b hb H' s => by rw [tr_iff hb]; exact q H' s
  have no : (¬ ∃ nm, SgnRow H ks v m nm) → ∀ H', Same H H' → Q (.bl false) H' := fun h => fin false ⟨fun z => Bool.noConfusion z, fun z => absurd z h⟩
  refine' ⟨_, ?derivation, ?_⟩
  case derivation =>
   refine' pss_cons ?ka ?kb
   case ka =>
    refine' ps_if ?kc ?kd pss_nil
    case kc =>
     refine' PW.pt ?ke
     case ke =>
      refine' pw_or ?kf ?kg
      case kf =>
       refine' pt_not ?kh
       case kh =>
        refine' pt_val ?ki ?kj
        case ki =>
         refine' pe_defE (hdb := zif) framed_of ?kk ?kl ?km ?kn ?ko ?kp
         case kk => exact D_law_row
         case kl => exact (hr.mono (by decide))
         case km => exact zik
         case kn =>
          refine' pa_cons ?kq pa_nil ?kr
          case kq => exact (pq 1 (visL zil) zhv zhw)
          case kr => rfl
         case ko => rfl
         case kp => rfl
        case kj => intro _; rfl
      case kg =>
       refine' pw_or ?ks ?kt
       case ks =>
        refine' pt_cmpR ?ku ?kv ?kw ?kx
        case ku => exact op_ne
        case kv =>
         refine' pe_callB (hn := zbw) (hdb := zbv) ?ky ?kz ?kba ?kbb ?kbc ?kbd ?kbe
         case ky => exact call_len_seq
         case kz => exact zin
         case kba => exact Z.n_len
         case kbb => exact bt_len
         case kbc =>
          refine' pa_cons ?kbf pa_nil ?kbg
          case kbf => exact (pq 1 (visL zil) zhv zhw)
          case kbg => rfl
         case kbd => rfl
         case kbe => rfl
        case kw => exact (pq 2 (visL zih) zbj zbk)
        case kx => exact (nomark _)
       case kt =>
        refine' pw_or1 ?kbh
        case kbh =>
         refine' pt_not ?kbi
         case kbi =>
          refine' pt_val ?kbj ?kbk
          case kbj =>
           refine' pe_defE (hdb := zic) framed_of ?kbl ?kbm ?kbn ?kbo ?kbp ?kbq
           case kbl => exact D_law_name
           case kbm => exact (hr.mono (by decide))
           case kbn => exact zii
           case kbo =>
            refine' pa_cons ?kbr pa_nil ?kbs
            case kbr =>
             refine' pe_ix ?kbt ?kbu ?kbv ?kbw
             case kbt => exact ix_seq
             case kbu => exact (pq 1 (visL zil) zhv zhw)
             case kbv => exact pe_int
             case kbw =>
              intro _ _
              exact rfl
            case kbs => rfl
           case kbp => rfl
           case kbq => rfl
          case kbk => intro _; rfl
    case kd =>
     refine' pss_one ?kbx
     case kbx =>
      refine' ps_ret ?kby
      case kby => exact pe_bl
   case kb =>
    refine' pss_cons ?kbz ?kca
    case kbz =>
     refine' ps_if ?kcb ?kcc pss_nil
     case kcb =>
      refine' PW.pt ?kcd
      case kcd =>
       refine' pw_or ?kce ?kcf
       case kce =>
        refine' pt_cmpR ?kcg ?kch ?kci ?kcj
        case kcg => exact op_in_seq
        case kch =>
         refine' pe_ix ?kck ?kcl ?kcm ?kcn
         case kck => exact ix_seq
         case kcl => exact (pq 1 (visL zil) zhv zhw)
         case kcm => exact pe_int
         case kcn =>
          intro _ _
          exact rfl
        case kci =>
         refine' pe_tup ?kco
         case kco =>
          refine' pa_strs ?kcp
          case kcp => exact (by repeat constructor)
        case kcj => exact (by with_unfolding_all rfl)
       case kcf =>
        refine' pw_or ?kcq ?kcr
        case kcq =>
         refine' pt_not ?kcs
         case kcs =>
          refine' pt_val ?kct ?kcu
          case kct =>
           refine' pe_defE (hdb := zif) framed_of ?kcv ?kcw ?kcx ?kcy ?kcz ?kda
           case kcv => exact D_law_row
           case kcw => exact (hr.mono (by decide))
           case kcx => exact zik
           case kcy =>
            refine' pa_cons ?kdb pa_nil ?kdc
            case kdb =>
             refine' pe_ix ?kdd ?kde ?kdf ?kdg
             case kdd => exact ix_seq
             case kde => exact (pq 1 (visL zil) zhv zhw)
             case kdf => exact pe_int
             case kdg =>
              intro _ _
              exact rfl
            case kdc => rfl
           case kcz => rfl
           case kda => rfl
          case kcu => intro _; rfl
        case kcr =>
         refine' pw_or1 ?kdh
         case kdh =>
          refine' pt_cmpR ?kdi ?kdj ?kdk ?kdl
          case kdi => exact op_gt
          case kdj =>
           refine' pe_callB (hn := zbw) (hdb := zbv) ?kdm ?kdn ?kdo ?kdp ?kdq ?kdr ?kds
           case kdm => exact call_len_seq
           case kdn => exact zin
           case kdo => exact Z.n_len
           case kdp => exact bt_len
           case kdq =>
            refine' pa_cons ?kdt pa_nil ?kdu
            case kdt =>
             refine' pe_ix ?kdv ?kdw ?kdx ?kdy
             case kdv => exact ix_seq
             case kdw => exact (pq 1 (visL zil) zhv zhw)
             case kdx => exact pe_int
             case kdy =>
              intro _ _
              exact rfl
            case kdu => rfl
           case kdr => rfl
           case kds => rfl
          case kdk => exact pe_int
          case kdl => exact (nomark _)
     case kcc =>
      refine' pss_one ?kdz
      case kdz =>
       refine' ps_ret ?kea
       case kea => exact pe_bl
    case kca =>
     refine' pss_cons ?keb ?kec
     case keb =>
      refine' ps_set (i := 3) (x := Str.ofString "_law_named") ?ked ?kee ?kef ?keg ?keh ?kei
      case ked => exact SC.nd
      case kee => exact rfl
      case kef => exact (Or.inl zij)
      case keg =>
       refine' pe_op ?kej ?kek ?kel
       case kej => exact op_cat
       case kek =>
        refine' pe_callTy (hn := zby) (hdb := zbx) ?kem ?ken ?keo ?kep ?keq ?ker ?kes
        case kem => exact call_list_of
        case ken => exact zio
        case keo => exact Z.n_list
        case kep => exact bt_list
        case keq =>
         refine' pa_cons ?ket pa_nil ?keu
         case ket =>
          refine' pe_ix ?kev ?kew ?kex ?key
          case kev => exact ix_seq
          case kew => exact (pq 1 (visL zil) zhv zhw)
          case kex => exact pe_int
          case key =>
           intro _ _
           exact rfl
         case keu => rfl
        case ker => rfl
        case kes => rfl
       case kel =>
        refine' pe_callTy (hn := zby) (hdb := zbx) ?kez ?kfa ?kfb ?kfc ?kfd ?kfe ?kff
        case kez => exact call_list_of
        case kfa => exact zio
        case kfb => exact Z.n_list
        case kfc => exact bt_list
        case kfd =>
         refine' pa_cons ?kfg pa_nil ?kfh
         case kfg =>
          refine' pe_slice ?kfi ?kfj ?kfk po_none
          case kfi => exact sl_seq
          case kfj => exact (pq 1 (visL zil) zhv zhw)
          case kfk =>
           refine' po_some ?kfl
           case kfl => exact pe_int
         case kfh => rfl
        case kfe => rfl
        case kff => rfl
      case keh => rfl
      case kei => exact .inl rfl
     case kec =>
      refine' pss_one ?kfm
      case kfm =>
       refine' ps_ret ?kfn
       case kfn =>
        refine' pe_callB (hn := zdz) (hdb := zdy) ?kfo ?kfp ?kfq ?kfr ?kfs ?kft ?kfu
        case kfo => exact (call_allB rfl)
        case kfp => exact zim
        case kfq => exact Z.n_all
        case kfr => exact bt_all
        case kfs =>
         refine' pa_cons ?kfv pa_nil ?kfw
         case kfv =>
          refine' pe_compE framed_of ?kfx ?kfy ?kfz ?kga ?kgb ?kgc
          case kfx => exact rfl
          case kfy => exact ziq.at
          case kfz =>
           refine' pi_list ?kgd
           case kgd => exact (pq 3 (visL zij) zid zie)
          case kga =>
           intro _ _ _ _ _
           refine' pg_name (i := 0) ?kge ?kgf ?kgg ?kgh
           case kge => exact ziq.nd
           case kgf => exact rfl
           case kgg => exact (locO zir)
           case kgh => exact (.inr (lookup_relabel_local zir))
          case kgb =>
           intro _ _ _ _ _
           refine' pe_and ?kgi ?kgj
           case kgi =>
            refine' pe_callB (hn := zd9) (hdb := zd8) ?kgk ?kgl ?kgm ?kgn ?kgo ?kgp ?kgq
            case kgk => exact (call_isiT (T := "str"))
            case kgl => exact (glO zit)
            case kgm => exact Z.n_isinstance
            case kgn => exact bt_isinstance
            case kgo =>
             refine' pa_cons ?kgr ?kgs ?kgt
             case kgr => exact (pq 0 (visO zir) zia zib)
             case kgs =>
              refine' pa_cons ?kgu pa_nil ?kgv
              case kgu =>
               refine' pe_bltn (v := V.ty "str") (hn := zep) (hd := zeo) ?kgw ?kgx ?kgy ?kgz
               case kgw => exact (glO ziu)
               case kgx => exact Z.n_str
               case kgy => exact bt_str
               case kgz => exact rfl
              case kgv => rfl
             case kgt => rfl
            case kgp => rfl
            case kgq => rfl
           case kgj =>
            refine' pe_one ?kha
            case kha =>
             refine' pe_cmpR ?khb ?khc ?khd ?khe
             case khb => exact op_in_seq
             case khc => exact (pq 0 (visO zir) zia zib)
             case khd => exact (pq 1 (visF zis) zcs zct)
             case khe => exact (by with_unfolding_all rfl)
          case kgc => intro _; rfl
         case kfw => rfl
        case kft => rfl
        case kfu => rfl
  refine ⟨_, rfl, v, rfl, hd.sh, fun H1 s1 => ?_⟩
  cases hrow : rowOf H v with
  | none => exact ⟨false, rfl, iteT (no (fun ⟨_, _, _, _, _, e, _⟩ => by rw [hrow] at e; cases e) _ s1)⟩
  | some xs =>
  refine ⟨true, rfl, iteF ?_⟩
  obtain ⟨b, rfl, hB⟩ := rowOf.lt hrow
  refine ⟨_, rfl, b, _, rfl, (hB.same s1).sq, _, rfl, rfl, ?_⟩
  by_cases hl : xs.length = m
  case neg =>
   exact ⟨_, rfl, ifT (by simp; omega) (no (fun ⟨_, _, _, _, _, e, l, _⟩ => hl (by rw [hrow] at e; cases e; simpa using l)) _ s1)⟩
  refine ⟨_, rfl, ifF (by simp [hl]) ?_⟩
  obtain ⟨x, y, r, rfl⟩ : ∃ x y r, xs = x :: y :: r := by
   match xs, hl with
   | x :: y :: r, _ => exact ⟨x, y, r, rfl⟩
   | [_], h => simp at h; omega
   | [], h => simp at h; omega
  have hx := (hd.2 _ hrow x (by simp)).sh
  have hy := hd.2 _ hrow y (by simp)
  have hr2 : r.length + 2 = m := by simpa using hl
  refine ⟨_, rfl, (hB.same s1).ix (v := x) at0 ?_⟩
  refine ⟨x, rfl, hx.same s1, fun H2 s2 => ?_⟩
  have s02 := s1.trans s2
  by_cases hn : NmV x
  case neg => exact ⟨false, by rw [tr_no hn], iteT (no (fun ⟨nm, _, _, _, _, e, _, g, _⟩ => hn (by rw [hrow] at e; cases e; exact ⟨nm, g.1, g.2.1⟩)) _ s02)⟩
  refine ⟨true, by rw [tr_of hn], iteF ?_⟩
  obtain ⟨nm, rfl, hnm⟩ := hn
  refine ⟨_, rfl, (hB.same s02).ix (v := .str nm) at0 ?_⟩
  refine ⟨by show 5 ≤ sizeLine; decide, fun t ht => ?_⟩
  have s03 := s02.trans (same_new ht (.tup (sayWords.map V.str)))
  refine ⟨t, sayWords.map V.str, rfl, .inr (SqT.of upd_same), rfl, flat_strs sayWords, _, rfl, ?_⟩
  rw [if_neg Bool.false_ne_true, inV_strs]
  by_cases hw : nm ∈ sayWords
  case pos =>
   rw [decide_eq_true hw]
   exact iteT (no (fun ⟨nm', _, _, _, _, e, _, g, _⟩ => by rw [hrow] at e; cases e; have := g.1; cases this; exact g.2.2 hw) _ s03)
  rw [decide_eq_false hw]
  refine iteF ?_
  refine ⟨_, rfl, (hB.same s03).ix (v := y) at1 ?_⟩
  refine ⟨y, rfl, hy.sh.same s03, fun H4 s4 => ?_⟩
  have s04 := s03.trans s4
  rw [hy.sh.rows s03]
  cases hrow2 : rowOf H y with
  | none => exact ⟨false, rfl, iteT (no (fun ⟨_, _, _, _, _, e, _, _, e2, _⟩ => by rw [hrow] at e; cases e; rw [hrow2] at e2; cases e2) _ s04)⟩
  | some ps =>
  refine ⟨true, rfl, iteF ?_⟩
  obtain ⟨c, rfl, hC⟩ := rowOf.lt hrow2
  refine ⟨_, rfl, (hB.same s04).ix (v := .ref c) at1 ?_⟩
  refine ⟨c, _, rfl, (hC.same s04).sq, _, _, rfl, rfl, _, rfl, ?_⟩
  by_cases l2 : ps.length ≤ 2
  case neg => exact ifT (by simp; omega) (no (fun ⟨_, _, _, _, _, e, _, _, e2, l, _⟩ => by rw [hrow] at e; cases e; rw [hrow2] at e2; cases e2; exact l2 l) _ s04)
  refine ifF (by simp; omega) ?_
  refine ⟨_, rfl, (hB.same s04).ix (v := .ref c) at1 ?_⟩
  refine ⟨c, _, rfl, (hC.same s04).sq, fun L1 hL1 => ?_⟩
  have s05 := s04.trans (same_new hL1 (.lst ps))
  have hb5 := hB.same s05
  refine ⟨_, rfl, 2, rfl, LT.cut2 hb5 fun u H6 hu s6 => ?_⟩
  refine ⟨u, r, rfl, hu.sq, fun L2 hL2 => ?_⟩
  have e1 : (upd H6 L2 (.lst r)) L1 = some (.lst ps) := same_new hL2 _ _ _ (s6 _ _ upd_same)
  have s07 := (s05.trans s6).trans (same_new hL2 (.lst r))
  refine ⟨L1, L2, ps, r, rfl, rfl, e1, upd_same, Nat.le_trans (show ps.length + r.length ≤ 3 by omega) (by decide), fun L3 hL3 => ?_⟩
  have s08 := s07.trans (same_new hL3 (.lst (ps ++ r)))
  have dk : ∀ k ∈ ps ++ r, Sh H k := fun k hk => by
   rcases List.mem_append.mp hk with hk | hk
   ·exact hy.2 _ hrow2 k hk
   ·exact (hd.2 _ hrow k (by simp [hk])).sh
  have e3 : (upd (upd H6 L2 (.lst r)) L3 (.lst (ps ++ r))) L3 = some (.lst (ps ++ r)) := upd_same
  generalize (upd (upd H6 L2 (.lst r)) L3 (.lst (ps ++ r))) = H8 at s08 e3
  refine ⟨_, rfl, L3, rfl, ⟨_, SqL.of e3⟩, ?_⟩
  intro cl C1 ex s0 H0
  refine comp_it1 (ps ++ r).length (fun i ys H9 => Same H8 H9 ∧ ∃ bs : List Bool, ys = bs.map V.bl ∧ bs.length = i ∧ ∀ (j : Nat) (x : V) (b : Bool), (ps ++ r)[j]? = some x → bs[j]? = some b → (b = true ↔ InKs ks x)) (fun i x => (ps ++ r)[i]? = some x) ⟨Same.refl _, [], rfl, rfl, fun _ _ _ _ z => by simp at z⟩ (by rw [List.length_append]; exact Nat.le_trans (show ps.length + r.length ≤ 3 by omega) (by decide)) (fun i ys H9 hi _ ⟨z, _⟩ => go_list (SqL.of (z _ _ e3)) hi) (fun ys H9 _ ⟨z, _⟩ => stop_list (SqL.of (z _ _ e3))) ?_ ?_
  ·rintro i x ys H9 hi hx' hy' ⟨s9, bs, rfl, hbl, hb⟩
   have s09 := s08.trans s9
   have hsx := (dk x (List.mem_of_getElem? hx')).same s09
   obtain ⟨ty, hty, hk⟩ := hsx.isS (K := K)
   have put : ∀ b : Bool, (b = true ↔ InKs ks x) → ∃ bs' : List Bool, bs.map V.bl ++ [.bl b] = bs'.map V.bl ∧ bs'.length = i + 1 ∧ ∀ (j : Nat) (x : V) (b : Bool), (ps ++ r)[j]? = some x → bs'[j]? = some b → (b = true ↔ InKs ks x) := fun b hbb => by
    refine ⟨bs ++ [b], by rw [List.map_append]; rfl, by simp [hbl], fun j y c hj hc => ?_⟩
    by_cases hji : j < bs.length
    ·rw [List.getElem?_append_left hji] at hc
     exact hb j y c hj hc
    ·have : j = i := by
      have := (List.getElem?_eq_some_iff.mp hc).1
      simp at this; omega
     subst this
     rw [hx'] at hj; cases hj
     rw [List.getElem?_append_right (by omega), hbl] at hc
     simp at hc; subst hc
     exact hbb
   refine ⟨_, rfl, _, _, _, rfl, hty, hk, _, rfl, ?_⟩
   by_cases hs : isStr x = true
   ·obtain ⟨z, rfl⟩ := isStr.ex hs
    rw [hs]
    refine iteT ?_
    refine ⟨_, rfl, _, rfl, a, _, rfl, (hL.same s09).sq, rfl, flat_strs ks, s9, ?_⟩
    rw [if_neg Bool.false_ne_true, inV_strs]
    exact put _ ⟨fun h => ⟨z, of_decide_eq_true h, rfl⟩, fun ⟨_, h, e⟩ => by cases e; exact decide_eq_true h⟩
   ·have hs : isStr x = false := by simpa using hs
    rw [hs]
    exact iteF ⟨s9, put false ⟨fun h => Bool.noConfusion h, fun ⟨_, _, e⟩ => by rw [e] at hs; cases hs⟩⟩
  ·rintro ys H9 hyl ⟨s9, bs, rfl, hbl, hb⟩ D hD
   refine ⟨D, bs, rfl, SqL.of upd_same, fin _ ?_ _ ((s08.trans s9).trans (same_new hD _))⟩
   rw [List.all_eq_true]
   constructor
   ·intro h
    refine ⟨nm, .str nm, .ref c, r, ps, hrow, hr2, ⟨rfl, hnm, hw⟩, hrow2, l2, fun k hk => ?_⟩
    obtain ⟨j, hj⟩ := List.getElem?_of_mem hk
    have hjl : j < bs.length := by rw [hbl]; exact (List.getElem?_eq_some_iff.mp hj).1
    exact (hb j k bs[j] hj (by simp [hjl])).mp (h _ (List.getElem_mem hjl))
   ·rintro ⟨_, _, _, _, _, e, _, _, e2, _, hk⟩ b' hb'
    rw [hrow] at e; cases e
    rw [hrow2] at e2; cases e2
    obtain ⟨j, hj⟩ := List.getElem?_of_mem hb'
    have hjl : j < (ps ++ r).length := by rw [← hbl]; exact (List.getElem?_eq_some_iff.mp hj).1
    exact (hb j _ b' (List.getElem?_eq_getElem hjl) hj).mpr (hk _ (List.getElem_mem hjl))
end
end FewE

set_option Elab.async false
set_option linter.all false
set_option maxRecDepth 100000
set_option maxHeartbeats 1000000
namespace FewE
open PySem L2 Few
theorem ziv : ((Str.ofString "_law_function" : Str) == ("__debug__" : Str)) = false := by decide +kernel
theorem ziw : ((Str.ofString "_law_function" : Str) == ("__classdict__" : Str)) = false := by decide +kernel
theorem zix : ((Str.ofString "_law_sign" : Str) == ("__debug__" : Str)) = false := by decide +kernel
theorem ziy : ((Str.ofString "_law_tie" : Str) == ("__debug__" : Str)) = false := by decide +kernel
theorem ziz : ((Str.ofString "_law_tie" : Str) == ("__classdict__" : Str)) = false := by decide +kernel
theorem zi0 : ((Str.ofString "_law_unlike_here" : Str) == ("__debug__" : Str)) = false := by decide +kernel
theorem zi1 : ((Str.ofString "_law_unlike_here" : Str) == ("__classdict__" : Str)) = false := by decide +kernel
theorem tr_true {p : Prop} : tr p = true ↔ p := ⟨fun h => Classical.byContradiction fun n => by (rw [tr_no n] at h; cases h), fun h => tr_of h⟩
theorem Over.truths {J : It} {H0 : Hp} {a : Addr} {xs : List V} {te : TE} {σ : St} {H : Hp} {Q : VK} (O : Over H0 a xs J) (hs0 : Same H0 H) (hz : xs.length ≤ sizeLine) (R : V → Prop)
  (hs : ∀ x H1, x ∈ xs → Same H H1 → ∀ (N : VK), (∀ H2, Same H1 H2 → N (.bl (tr (R x))) H2) → te (some x :: σ) H1 N)
  (hd : ∀ D H1, H1 D = some (.lst ((xs.map fun x => tr (R x)).map V.bl)) → Same H H1 → Q (.ref D) H1) : CompOk 1 J (gName 0) te σ H Q := by
 refine O.comp (fun i ys H1 => ys = ((xs.take i).map fun x => tr (R x)).map V.bl ∧ Same H H1) ⟨rfl, Same.refl _⟩ hz (fun i ys H1 _ ⟨_, z⟩ o e => z _ _ (hs0 _ _ e)) ?_ ?_
 ·rintro i x ys H1 hi hy ⟨rfl, s1⟩
  refine hs x H1 (List.mem_of_getElem? hi) s1 _ fun H2 s2 => ⟨?_, s1.trans s2⟩
  rw [List.take_succ, hi]
  show _ = List.map V.bl (List.map (fun x => tr (R x)) (List.take i xs ++ [x]))
  rw [List.map_append, List.map_append]
  rfl
 ·rintro ys H1 hy ⟨rfl, s1⟩ D hD
  rw [List.take_length]
  exact hd D _ upd_same (s1.trans (same_new hD _))
theorem all_tr {xs : List V} {R : V → Prop} : (xs.map fun x => tr (R x)).all id = true ↔ ∀ x ∈ xs, R x := by
 rw [List.all_map, List.all_eq_true]
 exact ⟨fun h x hx => tr_true.mp (h x hx), fun h x hx => tr_true.mpr (h x hx)⟩
theorem not_all_tr {xs : List V} {R : V → Prop} (h : ¬ ∀ x ∈ xs, R x) : (xs.map fun x => tr (R x)).all id = false := by
 rw [Bool.eq_false_iff]; exact fun z => h (all_tr.mp z)
theorem prd_of {R : V → Str → Prop} : ∀ {xs : List V}, (∀ x ∈ xs, ∃ n, R x n) → ∃ ns, Prd R xs ns
 | [], _ => ⟨[], .nil⟩
 | x :: r, h => by
  obtain ⟨n, hn⟩ := h x List.mem_cons_self
  obtain ⟨ns, hns⟩ := prd_of (xs := r) fun y hy => h y (List.mem_cons_of_mem _ hy)
  exact ⟨n :: ns, .cons hn hns⟩
theorem Prd.mem {R : V → Str → Prop} {xs : List V} {ns : List Str} (h : Prd R xs ns) : ∀ x ∈ xs, ∃ n, R x n := by
 induction h with
 | nil => exact fun _ z => nomatch z
 | cons h tl ih =>
  intro x hx
  rcases List.mem_cons.mp hx with rfl | hx
  ·exact ⟨_, h⟩
  ·exact ih x hx
theorem nodup_take {α : Type} (l : List α) : l.Nodup ↔ ∀ (i : Nat) (x : α), l[i]? = some x → ¬ x ∈ l.take i := by
 unfold List.Nodup
 rw [List.pairwise_iff_getElem]
 constructor
 ·intro h i x hi hm
  obtain ⟨hil, rfl⟩ := List.getElem?_eq_some_iff.mp hi
  obtain ⟨j, hj⟩ := List.getElem?_of_mem hm
  have hjl := (List.getElem?_eq_some_iff.mp hj).1
  rw [List.length_take] at hjl
  have hji : j < i := by omega
  rw [List.getElem?_take_of_lt hji, List.getElem?_eq_getElem (by omega)] at hj
  exact h j i (by omega) hil hji (Option.some.inj hj)
 ·intro h i j hi hj hij e
  refine h j l[j] (by simp [hj]) ?_
  rw [← e]
  refine List.mem_of_getElem? (i := i) ?_
  rw [List.getElem?_take_of_lt hij, List.getElem?_eq_getElem hi]
def firsts (ns : List Str) : Nat → List Str
 | 0 => []
 | i + 1 => match ns[i]? with
  | some x => if x ∈ ns.take i then firsts ns i else firsts ns i ++ [x]
  | none => firsts ns i
theorem firsts_le (ns : List Str) : ∀ i, (firsts ns i).length ≤ i
 | 0 => Nat.le_refl _
 | i + 1 => by
  have := firsts_le ns i
  unfold firsts
  split
  ·split
   ·omega
   ·simp; omega
  ·omega
theorem firsts_eq (ns : List Str) : ∀ i, i ≤ ns.length → ((firsts ns i).length = i → ∀ j x, j < i → ns[j]? = some x → ¬ x ∈ ns.take j) ∧ ((∀ j x, j < i → ns[j]? = some x → ¬ x ∈ ns.take j) → firsts ns i = ns.take i)
 | 0, _ => ⟨fun _ _ _ h => absurd h (by omega), fun _ => by simp [firsts]⟩
 | i + 1, hi => by
  obtain ⟨ih1, ih2⟩ := firsts_eq ns i (by omega)
  have hx : ns[i]? = some (ns[i]'(by omega)) := List.getElem?_eq_getElem (by omega)
  have hle := firsts_le ns i
  have e : firsts ns (i + 1) = if ns[i]'(by omega) ∈ ns.take i then firsts ns i else firsts ns i ++ [ns[i]'(by omega)] := by
   conv => lhs; unfold firsts
   rw [hx]
  rw [e]
  by_cases hm : ns[i]'(by omega) ∈ ns.take i
  ·rw [if_pos hm]
   exact ⟨fun h => absurd h (by omega), fun h => absurd hm (h i _ (by omega) hx)⟩
  ·rw [if_neg hm]
   refine ⟨fun h j x hj hjx => ?_, fun h => ?_⟩
   ·by_cases hji : j = i
    ·subst hji; rw [hx] at hjx; cases hjx; exact hm
    ·exact ih1 (by simpa using h) j x (by omega) hjx
   ·rw [ih2 fun j x hj => h j x (by omega), List.take_succ, hx]; rfl
theorem firsts_iff (ns : List Str) : firsts ns ns.length = ns ↔ ns.Nodup := by
 rw [nodup_take]
 obtain ⟨h1, h2⟩ := firsts_eq ns ns.length (Nat.le_refl _)
 constructor
 ·intro h i x hi
  exact h1 (by rw [h]) i x (List.getElem?_eq_some_iff.mp hi).1 hi
 ·intro h
  rw [h2 fun j x _ => h j x, List.take_length]
theorem firsts_succ {ns : List Str} {i : Nat} {x : Str} (h : ns[i]? = some x) : firsts ns (i + 1) = if x ∈ ns.take i then firsts ns i else firsts ns i ++ [x] := by
 conv => lhs; unfold firsts
 rw [h]
theorem cutTo {xs : List V} {i : Nat} : cutV xs none (some (i : Int)) = xs.take i := by
 unfold cutV
 rw [HT.sIx_none, HT.sIx_nat]
 rw [List.drop_zero, Nat.sub_zero]
 by_cases h : i ≤ xs.length
 ·rw [Nat.min_eq_left h]
 ·rw [Nat.min_eq_right (by omega), List.take_length, List.take_of_length_le (by omega)]
def NoTup (H : Hp) (v : V) : Prop := ∀ a xs, v = .ref a → H a = some (.tup xs) → ¬ (1 ≤ xs.length ∧ xs.length ≤ 4)
def N0 (H : Hp) (x : V) (nm : Str) : Prop := ∃ r, rowOf H x = some (.str nm :: r)
theorem TieN.n0 {H : Hp} {ks : List Str} {x : V} {n : Str} (h : TieN H ks x n) : N0 H x n := by
 obtain ⟨_, _, _, e, g, _⟩ := h
 rw [g.1] at e
 exact ⟨_, e⟩
theorem FunN.n0 {H : Hp} {ks : List Str} {x : V} {n : Str} (h : FunN H ks x n) : N0 H x n := by
 obtain ⟨_, _, _, _, _, e, g, _⟩ := h
 rw [g.1] at e
 exact ⟨_, e⟩
section
variable {P : Program} {w : World} {K : PySem.W.Frag} {mg : Str → Option Value} {base : Heap}
abbrev s_law_is_book : Stmt := top 43
theorem zi2 : FnScope ["_law_kinds", "_law_ties", "_law_functions", "_law_names", "_law_unlike_here"] ["_law_kinds", "_law_ties", "_law_functions"] (defScope s_law_is_book) := ⟨rfl, rfl, rfl, by decide +kernel, rfl, by decide +kernel, by decide +kernel⟩
theorem zi3 : (defScope s_law_is_book).names.lookup (Str.ofString "_law_functions") = some NameKind.local := by decide +kernel
theorem zi4 : (defScope s_law_is_book).names.lookup (Str.ofString "_law_kinds") = some NameKind.cell := by decide +kernel
theorem zi5 : (defScope s_law_is_book).names.lookup (Str.ofString "_law_names") = some NameKind.cell := by decide +kernel
theorem zi6 : (defScope s_law_is_book).names.lookup (Str.ofString "_law_row") = some NameKind.globalImplicit := by decide +kernel
theorem zi7 : (defScope s_law_is_book).names.lookup (Str.ofString "_law_ties") = some NameKind.local := by decide +kernel
theorem zi8 : (defScope s_law_is_book).names.lookup (Str.ofString "_law_unlike_here") = some NameKind.local := by decide +kernel
theorem zi9 : (defScope s_law_is_book).names.lookup (Str.ofString "all") = some NameKind.globalImplicit := by decide +kernel
theorem zja : (defScope s_law_is_book).names.lookup (Str.ofString "enumerate") = some NameKind.globalImplicit := by decide +kernel
theorem zjb : (defScope s_law_is_book).names.lookup (Str.ofString "len") = some NameKind.globalImplicit := by decide +kernel
theorem zjc : (defScope s_law_is_book).names.lookup (Str.ofString "list") = some NameKind.globalImplicit := by decide +kernel
theorem zjd : CompSc 2 ["_law_k", "_law_kind", "_law_kinds", "_law_ties", "_law_functions", "_law_names", "_law_unlike_here"] ["_law_kinds", "_law_ties", "_law_functions", "_law_names", "_law_unlike_here"] (defScope s_law_is_book) { kind := PySem.ScopeKind.function, names := [ (PySem.Str.ofString ".0", PySem.NameKind.local), (PySem.Str.ofString "_law_k", PySem.NameKind.local), (PySem.Str.ofString "_law_kind", PySem.NameKind.local), (PySem.Str.ofString "_law_kinds", PySem.NameKind.free)], isGenerator := false, isCoroutine := false, more := [] : PySem.Scope } := ⟨rfl, by decide +kernel, by decide +kernel, by decide +kernel, by decide +kernel, rfl, by decide +kernel⟩
theorem zje : ({ kind := PySem.ScopeKind.function, names := [ (PySem.Str.ofString ".0", PySem.NameKind.local), (PySem.Str.ofString "_law_k", PySem.NameKind.local), (PySem.Str.ofString "_law_kind", PySem.NameKind.local), (PySem.Str.ofString "_law_kinds", PySem.NameKind.free)], isGenerator := false, isCoroutine := false, more := [] : PySem.Scope } : Scope).names.lookup (Str.ofString "_law_k") = some NameKind.local := by decide +kernel
theorem zjf : ({ kind := PySem.ScopeKind.function, names := [ (PySem.Str.ofString ".0", PySem.NameKind.local), (PySem.Str.ofString "_law_k", PySem.NameKind.local), (PySem.Str.ofString "_law_kind", PySem.NameKind.local), (PySem.Str.ofString "_law_kinds", PySem.NameKind.free)], isGenerator := false, isCoroutine := false, more := [] : PySem.Scope } : Scope).names.lookup (Str.ofString "_law_kind") = some NameKind.local := by decide +kernel
theorem zjg : ({ kind := PySem.ScopeKind.function, names := [ (PySem.Str.ofString ".0", PySem.NameKind.local), (PySem.Str.ofString "_law_k", PySem.NameKind.local), (PySem.Str.ofString "_law_kind", PySem.NameKind.local), (PySem.Str.ofString "_law_kinds", PySem.NameKind.free)], isGenerator := false, isCoroutine := false, more := [] : PySem.Scope } : Scope).names.lookup (Str.ofString "_law_kinds") = some NameKind.free := by decide +kernel
theorem zjh : CompSc 2 ["_law_k", "_law_name_here", "_law_kinds", "_law_ties", "_law_functions", "_law_names", "_law_unlike_here"] ["_law_kinds", "_law_ties", "_law_functions", "_law_names", "_law_unlike_here"] (defScope s_law_is_book) { kind := PySem.ScopeKind.function, names := [ (PySem.Str.ofString ".0", PySem.NameKind.local), (PySem.Str.ofString "_law_k", PySem.NameKind.local), (PySem.Str.ofString "_law_name_here", PySem.NameKind.local), (PySem.Str.ofString "_law_names", PySem.NameKind.free)], isGenerator := false, isCoroutine := false, more := [] : PySem.Scope } := ⟨rfl, by decide +kernel, by decide +kernel, by decide +kernel, by decide +kernel, rfl, by decide +kernel⟩
theorem zji : ({ kind := PySem.ScopeKind.function, names := [ (PySem.Str.ofString ".0", PySem.NameKind.local), (PySem.Str.ofString "_law_k", PySem.NameKind.local), (PySem.Str.ofString "_law_name_here", PySem.NameKind.local), (PySem.Str.ofString "_law_names", PySem.NameKind.free)], isGenerator := false, isCoroutine := false, more := [] : PySem.Scope } : Scope).names.lookup (Str.ofString "_law_k") = some NameKind.local := by decide +kernel
theorem zjj : ({ kind := PySem.ScopeKind.function, names := [ (PySem.Str.ofString ".0", PySem.NameKind.local), (PySem.Str.ofString "_law_k", PySem.NameKind.local), (PySem.Str.ofString "_law_name_here", PySem.NameKind.local), (PySem.Str.ofString "_law_names", PySem.NameKind.free)], isGenerator := false, isCoroutine := false, more := [] : PySem.Scope } : Scope).names.lookup (Str.ofString "_law_name_here") = some NameKind.local := by decide +kernel
theorem zjk : ({ kind := PySem.ScopeKind.function, names := [ (PySem.Str.ofString ".0", PySem.NameKind.local), (PySem.Str.ofString "_law_k", PySem.NameKind.local), (PySem.Str.ofString "_law_name_here", PySem.NameKind.local), (PySem.Str.ofString "_law_names", PySem.NameKind.free)], isGenerator := false, isCoroutine := false, more := [] : PySem.Scope } : Scope).names.lookup (Str.ofString "_law_names") = some NameKind.free := by decide +kernel
theorem zjl : CompSc 1 ["_law_sign_here", "_law_kinds", "_law_ties", "_law_functions", "_law_names", "_law_unlike_here"] ["_law_kinds", "_law_ties", "_law_functions", "_law_names", "_law_unlike_here"] (defScope s_law_is_book) { kind := PySem.ScopeKind.function, names := [(PySem.Str.ofString ".0", PySem.NameKind.local), (PySem.Str.ofString "_law_sign_here", PySem.NameKind.local)], isGenerator := false, isCoroutine := false, more := [] : PySem.Scope } := ⟨rfl, by decide +kernel, by decide +kernel, by decide +kernel, by decide +kernel, rfl, by decide +kernel⟩
theorem zjm : ({ kind := PySem.ScopeKind.function, names := [(PySem.Str.ofString ".0", PySem.NameKind.local), (PySem.Str.ofString "_law_sign_here", PySem.NameKind.local)], isGenerator := false, isCoroutine := false, more := [] : PySem.Scope } : Scope).names.lookup (Str.ofString "_law_sign_here") = some NameKind.local := by decide +kernel
theorem zjn : CompSc 1 ["_law_function", "_law_kinds", "_law_ties", "_law_functions", "_law_names", "_law_unlike_here"] ["_law_kinds", "_law_ties", "_law_functions", "_law_names", "_law_unlike_here"] (defScope s_law_is_book) { kind := PySem.ScopeKind.function, names := [ (PySem.Str.ofString ".0", PySem.NameKind.local), (PySem.Str.ofString "_law_function", PySem.NameKind.local), (PySem.Str.ofString "_law_sign", PySem.NameKind.globalImplicit), (PySem.Str.ofString "_law_kinds", PySem.NameKind.free)], isGenerator := false, isCoroutine := false, more := [] : PySem.Scope } := ⟨rfl, by decide +kernel, by decide +kernel, by decide +kernel, by decide +kernel, rfl, by decide +kernel⟩
theorem zjo : ({ kind := PySem.ScopeKind.function, names := [ (PySem.Str.ofString ".0", PySem.NameKind.local), (PySem.Str.ofString "_law_function", PySem.NameKind.local), (PySem.Str.ofString "_law_sign", PySem.NameKind.globalImplicit), (PySem.Str.ofString "_law_kinds", PySem.NameKind.free)], isGenerator := false, isCoroutine := false, more := [] : PySem.Scope } : Scope).names.lookup (Str.ofString "_law_function") = some NameKind.local := by decide +kernel
theorem zjp : ({ kind := PySem.ScopeKind.function, names := [ (PySem.Str.ofString ".0", PySem.NameKind.local), (PySem.Str.ofString "_law_function", PySem.NameKind.local), (PySem.Str.ofString "_law_sign", PySem.NameKind.globalImplicit), (PySem.Str.ofString "_law_kinds", PySem.NameKind.free)], isGenerator := false, isCoroutine := false, more := [] : PySem.Scope } : Scope).names.lookup (Str.ofString "_law_kinds") = some NameKind.free := by decide +kernel
theorem zjq : ({ kind := PySem.ScopeKind.function, names := [ (PySem.Str.ofString ".0", PySem.NameKind.local), (PySem.Str.ofString "_law_function", PySem.NameKind.local), (PySem.Str.ofString "_law_sign", PySem.NameKind.globalImplicit), (PySem.Str.ofString "_law_kinds", PySem.NameKind.free)], isGenerator := false, isCoroutine := false, more := [] : PySem.Scope } : Scope).names.lookup (Str.ofString "_law_sign") = some NameKind.globalImplicit := by decide +kernel
theorem zjr : CompSc 1 ["_law_tie", "_law_kinds", "_law_ties", "_law_functions", "_law_names", "_law_unlike_here"] ["_law_kinds", "_law_ties", "_law_functions", "_law_names", "_law_unlike_here"] (defScope s_law_is_book) { kind := PySem.ScopeKind.function, names := [ (PySem.Str.ofString ".0", PySem.NameKind.local), (PySem.Str.ofString "_law_tie", PySem.NameKind.local), (PySem.Str.ofString "_law_sign", PySem.NameKind.globalImplicit), (PySem.Str.ofString "_law_kinds", PySem.NameKind.free)], isGenerator := false, isCoroutine := false, more := [] : PySem.Scope } := ⟨rfl, by decide +kernel, by decide +kernel, by decide +kernel, by decide +kernel, rfl, by decide +kernel⟩
theorem zjs : ({ kind := PySem.ScopeKind.function, names := [ (PySem.Str.ofString ".0", PySem.NameKind.local), (PySem.Str.ofString "_law_tie", PySem.NameKind.local), (PySem.Str.ofString "_law_sign", PySem.NameKind.globalImplicit), (PySem.Str.ofString "_law_kinds", PySem.NameKind.free)], isGenerator := false, isCoroutine := false, more := [] : PySem.Scope } : Scope).names.lookup (Str.ofString "_law_kinds") = some NameKind.free := by decide +kernel
theorem zjt : ({ kind := PySem.ScopeKind.function, names := [ (PySem.Str.ofString ".0", PySem.NameKind.local), (PySem.Str.ofString "_law_tie", PySem.NameKind.local), (PySem.Str.ofString "_law_sign", PySem.NameKind.globalImplicit), (PySem.Str.ofString "_law_kinds", PySem.NameKind.free)], isGenerator := false, isCoroutine := false, more := [] : PySem.Scope } : Scope).names.lookup (Str.ofString "_law_sign") = some NameKind.globalImplicit := by decide +kernel
theorem zju : ({ kind := PySem.ScopeKind.function, names := [ (PySem.Str.ofString ".0", PySem.NameKind.local), (PySem.Str.ofString "_law_tie", PySem.NameKind.local), (PySem.Str.ofString "_law_sign", PySem.NameKind.globalImplicit), (PySem.Str.ofString "_law_kinds", PySem.NameKind.free)], isGenerator := false, isCoroutine := false, more := [] : PySem.Scope } : Scope).names.lookup (Str.ofString "_law_tie") = some NameKind.local := by decide +kernel
theorem zjv : CompSc 1 ["_law_kind", "_law_kinds", "_law_ties", "_law_functions", "_law_names", "_law_unlike_here"] ["_law_kinds", "_law_ties", "_law_functions", "_law_names", "_law_unlike_here"] (defScope s_law_is_book) { kind := PySem.ScopeKind.function, names := [ (PySem.Str.ofString ".0", PySem.NameKind.local), (PySem.Str.ofString "_law_kind", PySem.NameKind.local), (PySem.Str.ofString "_law_name", PySem.NameKind.globalImplicit)], isGenerator := false, isCoroutine := false, more := [] : PySem.Scope } := ⟨rfl, by decide +kernel, by decide +kernel, by decide +kernel, by decide +kernel, rfl, by decide +kernel⟩
theorem zjw : ({ kind := PySem.ScopeKind.function, names := [ (PySem.Str.ofString ".0", PySem.NameKind.local), (PySem.Str.ofString "_law_kind", PySem.NameKind.local), (PySem.Str.ofString "_law_name", PySem.NameKind.globalImplicit)], isGenerator := false, isCoroutine := false, more := [] : PySem.Scope } : Scope).names.lookup (Str.ofString "_law_kind") = some NameKind.local := by decide +kernel
theorem zjx : ({ kind := PySem.ScopeKind.function, names := [ (PySem.Str.ofString ".0", PySem.NameKind.local), (PySem.Str.ofString "_law_kind", PySem.NameKind.local), (PySem.Str.ofString "_law_name", PySem.NameKind.globalImplicit)], isGenerator := false, isCoroutine := false, more := [] : PySem.Scope } : Scope).names.lookup (Str.ofString "_law_name") = some NameKind.globalImplicit := by decide +kernel
def spIsBook : Sp := fun vs H Q _ => ∃ (v1 v2 v3 : V), vs = [v1, v2, v3] ∧ Dat 1 H v1 ∧ Dat 3 H v2 ∧ Dat 3 H v3 ∧ NoTup H v1 ∧ ∀ H', Same H H' → Q (.bl (tr (BookV H v1 v2 v3))) H'
theorem ok_is_book (F : FunAt K mg "_law_is_book" s_law_is_book ["_law_kinds", "_law_ties", "_law_functions"]) (Z : Bl mg) (n_enumerate : mg "enumerate" = none) (D_law_row : DefE P w K mg base "_law_row" 1 ["_law_thing"] spIsList) (D_law_name : DefE P w K mg base "_law_name" 1 ["_law_thing"] spIsName)
  (D_law_sign : DefE P w K mg base "_law_sign" 2 ["_law_kinds", "_law_thing", "_law_many"] spSign) :
  DefE P w K mg base "_law_is_book" 3 ["_law_kinds", "_law_ties", "_law_functions"] spIsBook := by
 have SC := zi2
 refine F.mkE (k := 2) zi2 (fun vs H Q E h => ?_) (fun f cdv A outer s H vs Q E hr h => ?_)
 ·obtain ⟨v1, v2, v3, rfl, _⟩ := h
  rfl
 ·obtain ⟨v1, v2, v3, rfl, d1, d2, d3, nt, q⟩ := h
  have fin : ∀ b, (b = true ↔ BookV H v1 v2 v3) → ∀ H', Same H H' → Q (.bl b) H' := fun b hb H' s => by rw [tr_iff hb]; exact q H' s
  have no : (¬ BookV H v1 v2 v3) → ∀ H', Same H H' → Q (.bl false) H' := fun h => fin false ⟨fun z => Bool.noConfusion z, fun z => absurd z h⟩
  refine' ⟨_, ?derivation, ?_⟩
  case derivation =>
   refine' pss_cons ?ka ?kb
   case ka =>
    refine' ps_if ?kc ?kd pss_nil
    case kc =>
     refine' PW.pt ?ke
     case ke =>
      refine' pw_or ?kf ?kg
      case kf =>
       refine' pt_not ?kh
       case kh =>
        refine' pt_val ?ki ?kj
        case ki =>
         refine' pe_defE (hdb := zif) framed_of ?kk ?kl ?km ?kn ?ko ?kp
         case kk => exact D_law_row
         case kl => exact (hr.mono (by decide))
         case km => exact zi6
         case kn =>
          refine' pa_cons ?kq pa_nil ?kr
          case kq => exact (pq 0 (visC zi4) zcs zct)
          case kr => rfl
         case ko => rfl
         case kp => rfl
        case kj => intro _; rfl
      case kg =>
       refine' pw_or ?ks ?kt
       case ks =>
        refine' pt_not ?ku
        case ku =>
         refine' pt_chain ?kv ?kw ?kx ?ky ?kz ?kba
         case kv => exact op_le
         case kw => exact op_le
         case kx => exact pe_int
         case ky =>
          refine' pe_callB (hn := zbw) (hdb := zbv) ?kbb ?kbc ?kbd ?kbe ?kbf ?kbg ?kbh
          case kbb => exact call_len_seq
          case kbc => exact zjb
          case kbd => exact Z.n_len
          case kbe => exact bt_len
          case kbf =>
           refine' pa_cons ?kbi pa_nil ?kbj
           case kbi => exact (pq 0 (visC zi4) zcs zct)
           case kbj => rfl
          case kbg => rfl
          case kbh => rfl
         case kz => exact pe_int
         case kba => with_unfolding_all rfl
       case kt =>
        refine' pw_or1 ?kbk
        case kbk =>
         refine' pt_not ?kbl
         case kbl =>
          refine' pt_val ?kbm ?kbn
          case kbm =>
           refine' pe_callB (hn := zdz) (hdb := zdy) ?kbo ?kbp ?kbq ?kbr ?kbs ?kbt ?kbu
           case kbo => exact (call_allB rfl)
           case kbp => exact zi9
           case kbq => exact Z.n_all
           case kbr => exact bt_all
           case kbs =>
            refine' pa_cons ?kbv pa_nil ?kbw
            case kbv =>
             refine' pe_compE framed_of ?kbx ?kby ?kbz ?kca ?kcb ?kcc
             case kbx => exact rfl
             case kby => exact zjv.at
             case kbz =>
              refine' pi_seq ?kcd
              case kcd => exact (pq 0 (visC zi4) zcs zct)
             case kca =>
              intro _ _ _ _ _
              refine' pg_name (i := 0) ?kce ?kcf ?kcg ?kch
              case kce => exact zjv.nd
              case kcf => exact rfl
              case kcg => exact (locO zjw)
              case kch => exact (.inr (lookup_relabel_local zjw))
             case kcb =>
              intro _ _ _ _ _
              refine' pe_defE (hdb := zic) ?kci ?kcj ?kck ?kcl ?kcm ?kcn ?kco
              case kci => exact (framed_comp framed_of)
              case kcj => exact D_law_name
              case kck => exact (hr.mono (by decide))
              case kcl => exact (glO zjx)
              case kcm =>
               refine' pa_cons ?kcp pa_nil ?kcq
               case kcp => exact (pq 0 (visO zjw) zia zib)
               case kcq => rfl
              case kcn => rfl
              case kco => rfl
             case kcc => intro _; rfl
            case kbw => rfl
           case kbt => rfl
           case kbu => rfl
          case kbn => intro _; rfl
    case kd =>
     refine' pss_one ?kcr
     case kcr =>
      refine' ps_ret ?kcs
      case kcs => exact pe_bl
   case kb =>
    refine' pss_cons ?kct ?kcu
    case kct =>
     refine' ps_if ?kcv ?kcw pss_nil
     case kcv =>
      refine' PW.pt ?kcx
      case kcx =>
       refine' pw_or ?kcy ?kcz
       case kcy =>
        refine' pt_not ?kda
        case kda =>
         refine' pt_val ?kdb ?kdc
         case kdb =>
          refine' pe_defE (hdb := zif) framed_of ?kdd ?kde ?kdf ?kdg ?kdh ?kdi
          case kdd => exact D_law_row
          case kde => exact (hr.mono (by decide))
          case kdf => exact zi6
          case kdg =>
           refine' pa_cons ?kdj pa_nil ?kdk
           case kdj => exact (pq 1 (visL zi7) zc4 zc5)
           case kdk => rfl
          case kdh => rfl
          case kdi => rfl
         case kdc => intro _; rfl
       case kcz =>
        refine' pw_or ?kdl ?kdm
        case kdl =>
         refine' pt_not ?kdn
         case kdn =>
          refine' pt_val ?kdo ?kdp
          case kdo =>
           refine' pe_defE (hdb := zif) framed_of ?kdq ?kdr ?kds ?kdt ?kdu ?kdv
           case kdq => exact D_law_row
           case kdr => exact (hr.mono (by decide))
           case kds => exact zi6
           case kdt =>
            refine' pa_cons ?kdw pa_nil ?kdx
            case kdw => exact (pq 2 (visL zi3) zcq zcr)
            case kdx => rfl
           case kdu => rfl
           case kdv => rfl
          case kdp => intro _; rfl
        case kdm =>
         refine' pw_or1 ?kdy
         case kdy =>
          refine' pt_cmpR ?kdz ?kea ?keb ?kec
          case kdz => exact op_gt
          case kea =>
           refine' pe_op ?ked ?kee ?kef
           case ked => exact op_add
           case kee =>
            refine' pe_callB (hn := zbw) (hdb := zbv) ?keg ?keh ?kei ?kej ?kek ?kel ?kem
            case keg => exact call_len_seq
            case keh => exact zjb
            case kei => exact Z.n_len
            case kej => exact bt_len
            case kek =>
             refine' pa_cons ?ken pa_nil ?keo
             case ken => exact (pq 1 (visL zi7) zc4 zc5)
             case keo => rfl
            case kel => rfl
            case kem => rfl
           case kef =>
            refine' pe_callB (hn := zbw) (hdb := zbv) ?kep ?keq ?ker ?kes ?ket ?keu ?kev
            case kep => exact call_len_seq
            case keq => exact zjb
            case ker => exact Z.n_len
            case kes => exact bt_len
            case ket =>
             refine' pa_cons ?kew pa_nil ?kex
             case kew => exact (pq 2 (visL zi3) zcq zcr)
             case kex => rfl
            case keu => rfl
            case kev => rfl
          case keb => exact pe_int
          case kec => exact (nomark _)
     case kcw =>
      refine' pss_one ?key
      case key =>
       refine' ps_ret ?kez
       case kez => exact pe_bl
    case kcu =>
     refine' pss_cons ?kfa ?kfb
     case kfa =>
      refine' ps_if ?kfc ?kfd pss_nil
      case kfc =>
       refine' pt_not ?kfe
       case kfe =>
        refine' pt_val ?kff ?kfg
        case kff =>
         refine' pe_callB (hn := zdz) (hdb := zdy) ?kfh ?kfi ?kfj ?kfk ?kfl ?kfm ?kfn
         case kfh => exact (call_allB rfl)
         case kfi => exact zi9
         case kfj => exact Z.n_all
         case kfk => exact bt_all
         case kfl =>
          refine' pa_cons ?kfo pa_nil ?kfp
          case kfo =>
           refine' pe_compE framed_of ?kfq ?kfr ?kfs ?kft ?kfu ?kfv
           case kfq => exact rfl
           case kfr => exact zjr.at
           case kfs =>
            refine' pi_seq ?kfw
            case kfw => exact (pq 1 (visL zi7) zc4 zc5)
           case kft =>
            intro _ _ _ _ _
            refine' pg_name (i := 0) ?kfx ?kfy ?kfz ?kga
            case kfx => exact zjr.nd
            case kfy => exact rfl
            case kfz => exact (locO zju)
            case kga => exact (.inr (lookup_relabel_local zju))
           case kfu =>
            intro _ _ _ _ _
            refine' pe_defE (hdb := zix) ?kgb ?kgc ?kgd ?kge ?kgf ?kgg ?kgh
            case kgb => exact (framed_comp framed_of)
            case kgc => exact D_law_sign
            case kgd => exact (hr.mono (by decide))
            case kge => exact (glO zjt)
            case kgf =>
             refine' pa_cons ?kgi ?kgj ?kgk
             case kgi => exact (pq 1 (visF zjs) zcs zct)
             case kgj =>
              refine' pa_cons ?kgl ?kgm ?kgn
              case kgl => exact (pq 0 (visO zju) ziy ziz)
              case kgm =>
               refine' pa_cons ?kgo pa_nil ?kgp
               case kgo => exact pe_int
               case kgp => rfl
              case kgn => rfl
             case kgk => rfl
            case kgg => rfl
            case kgh => rfl
           case kfv => intro _; rfl
          case kfp => rfl
         case kfm => rfl
         case kfn => rfl
        case kfg => intro _; rfl
      case kfd =>
       refine' pss_one ?kgq
       case kgq =>
        refine' ps_ret ?kgr
        case kgr => exact pe_bl
     case kfb =>
      refine' pss_cons ?kgs ?kgt
      case kgs =>
       refine' ps_if ?kgu ?kgv pss_nil
       case kgu =>
        refine' pt_not ?kgw
        case kgw =>
         refine' pt_val ?kgx ?kgy
         case kgx =>
          refine' pe_callB (hn := zdz) (hdb := zdy) ?kgz ?kha ?khb ?khc ?khd ?khe ?khf
          case kgz => exact (call_allB rfl)
          case kha => exact zi9
          case khb => exact Z.n_all
          case khc => exact bt_all
          case khd =>
           refine' pa_cons ?khg pa_nil ?khh
           case khg =>
            refine' pe_compE framed_of ?khi ?khj ?khk ?khl ?khm ?khn
            case khi => exact rfl
            case khj => exact zjn.at
            case khk =>
             refine' pi_seq ?kho
             case kho => exact (pq 2 (visL zi3) zcq zcr)
            case khl =>
             intro _ _ _ _ _
             refine' pg_name (i := 0) ?khp ?khq ?khr ?khs
             case khp => exact zjn.nd
             case khq => exact rfl
             case khr => exact (locO zjo)
             case khs => exact (.inr (lookup_relabel_local zjo))
            case khm =>
             intro _ _ _ _ _
             refine' pe_defE (hdb := zix) ?kht ?khu ?khv ?khw ?khx ?khy ?khz
             case kht => exact (framed_comp framed_of)
             case khu => exact D_law_sign
             case khv => exact (hr.mono (by decide))
             case khw => exact (glO zjq)
             case khx =>
              refine' pa_cons ?kia ?kib ?kic
              case kia => exact (pq 1 (visF zjp) zcs zct)
              case kib =>
               refine' pa_cons ?kid ?kie ?kif
               case kid => exact (pq 0 (visO zjo) ziv ziw)
               case kie =>
                refine' pa_cons ?kig pa_nil ?kih
                case kig => exact pe_int
                case kih => rfl
               case kif => rfl
              case kic => rfl
             case khy => rfl
             case khz => rfl
            case khn => intro _; rfl
           case khh => rfl
          case khe => rfl
          case khf => rfl
         case kgy => intro _; rfl
       case kgv =>
        refine' pss_one ?kii
        case kii =>
         refine' ps_ret ?kij
         case kij => exact pe_bl
      case kgt =>
       refine' pss_cons ?kik ?kil
       case kik =>
        refine' ps_set (i := 3) (x := Str.ofString "_law_names") ?kim ?kin ?kio ?kip ?kiq ?kir
        case kim => exact SC.nd
        case kin => exact rfl
        case kio => exact (Or.inr zi5)
        case kip =>
         refine' pe_compE framed_of ?kis ?kit ?kiu ?kiv ?kiw ?kix
         case kis => exact rfl
         case kit => exact zjl.at
         case kiu =>
          refine' pi_list ?kiy
          case kiy =>
           refine' pe_op ?kiz ?kja ?kjb
           case kiz => exact op_cat
           case kja =>
            refine' pe_callTy (hn := zby) (hdb := zbx) ?kjc ?kjd ?kje ?kjf ?kjg ?kjh ?kji
            case kjc => exact call_list_of
            case kjd => exact zjc
            case kje => exact Z.n_list
            case kjf => exact bt_list
            case kjg =>
             refine' pa_cons ?kjj pa_nil ?kjk
             case kjj => exact (pq 1 (visL zi7) zc4 zc5)
             case kjk => rfl
            case kjh => rfl
            case kji => rfl
           case kjb =>
            refine' pe_callTy (hn := zby) (hdb := zbx) ?kjl ?kjm ?kjn ?kjo ?kjp ?kjq ?kjr
            case kjl => exact call_list_of
            case kjm => exact zjc
            case kjn => exact Z.n_list
            case kjo => exact bt_list
            case kjp =>
             refine' pa_cons ?kjs pa_nil ?kjt
             case kjs => exact (pq 2 (visL zi3) zcq zcr)
             case kjt => rfl
            case kjq => rfl
            case kjr => rfl
         case kiv =>
          intro _ _ _ _ _
          refine' pg_name (i := 0) ?kju ?kjv ?kjw ?kjx
          case kju => exact zjl.nd
          case kjv => exact rfl
          case kjw => exact (locO zjm)
          case kjx => exact (.inr (lookup_relabel_local zjm))
         case kiw =>
          intro _ _ _ _ _
          refine' pe_ix ?kjy ?kjz ?kka ?kkb
          case kjy => exact ix_seq
          case kjz => exact (pq 0 (visO zjm) zht zhu)
          case kka => exact pe_int
          case kkb =>
           intro _ _
           exact rfl
         case kix => intro _; rfl
        case kiq => rfl
        case kir => exact .inl rfl
       case kil =>
        refine' pss_cons ?kkc ?kkd
        case kkc =>
         refine' ps_setCompF (i := 4) (x := Str.ofString "_law_unlike_here") ?kke ?kkf ?kkg ?kkh framed_of ?kki ?kkj ?kkk ?kkl ?kkm ?kkn ?kko ?kkp
         case kke => exact SC.nd
         case kkf => exact rfl
         case kkg => exact (Or.inl zi8)
         case kkh => exact rfl
         case kki => exact rfl
         case kkj => exact zjh.at
         case kkk =>
          refine' pi_enum ?kkq ?kkr ?kks ?kkt
          case kkq => exact zja
          case kkr => exact n_enumerate
          case kks =>
           refine' pa_cons ?kku pa_nil ?kkv
           case kku => exact (pq 3 (visC zi5) zc0 zc1)
           case kkv => rfl
          case kkt => rfl
         case kkl =>
          intro _ _ _ _ _
          refine' pg_tup ?kkw ?kkx ?kky ?kkz
          case kkw => exact rfl
          case kkx =>
           refine' pgs_cons ?kla ?klb ?klc
           case kla =>
            refine' pg_name (i := 0) ?kld ?kle ?klf ?klg
            case kld => exact zjh.nd
            case kle => exact rfl
            case klf => exact (locO zji)
            case klg => exact (.inr (lookup_relabel_local zji))
           case klb =>
            refine' pgs_cons ?klh pgs_nil ?kli
            case klh =>
             refine' pg_name (i := 1) ?klj ?klk ?kll ?klm
             case klj => exact zjh.nd
             case klk => exact rfl
             case kll => exact (locO zjj)
             case klm => exact (.inr (lookup_relabel_local zjj))
            case kli => rfl
           case klc => rfl
          case kky => rfl
          case kkz => rfl
         case kkm =>
          intro _ _ _ _ _
          refine' pt_cmpR ?kln ?klo ?klp ?klq
          case kln => exact op_notIn_seq
          case klo => exact (pq 1 (visO zjj) zcy zcz)
          case klp =>
           refine' pe_slice ?klr ?kls po_none ?klt
           case klr => exact sl_list
           case kls => exact (pq 5 (visF zjk) zc0 zc1)
           case klt =>
            refine' po_some ?klu
            case klu => exact (pq 0 (visO zji) zbf zbg)
          case klq => exact (by with_unfolding_all rfl)
         case kkn =>
          intro _ _ _ _ _
          exact (pq 1 (visO zjj) zcy zcz)
         case kko => intro _; rfl
         case kkp => exact .inl rfl
        case kkd =>
         refine' pss_one ?klv
         case klv =>
          refine' ps_ret ?klw
          case klw =>
           refine' pe_and ?klx ?kly
           case klx =>
            refine' pe_cmpR ?klz ?kma ?kmb ?kmc
            case klz => exact (op_eqLS hr.units0)
            case kma => exact (pq 4 (visL zi8) zi0 zi1)
            case kmb => exact (pq 3 (visC zi5) zc0 zc1)
            case kmc => exact (nomark _)
           case kly =>
            refine' pe_one ?kmd
            case kmd =>
             refine' pe_callB (hn := zdz) (hdb := zdy) ?kme ?kmf ?kmg ?kmh ?kmi ?kmj ?kmk
             case kme => exact (call_allB rfl)
             case kmf => exact zi9
             case kmg => exact Z.n_all
             case kmh => exact bt_all
             case kmi =>
              refine' pa_cons ?kml pa_nil ?kmm
              case kml =>
               refine' pe_compE framed_of ?kmn ?kmo ?kmp ?kmq ?kmr ?kms
               case kmn => exact rfl
               case kmo => exact zjd.at
               case kmp =>
                refine' pi_enum ?kmt ?kmu ?kmv ?kmw
                case kmt => exact zja
                case kmu => exact n_enumerate
                case kmv =>
                 refine' pa_cons ?kmx pa_nil ?kmy
                 case kmx => exact (pq 0 (visC zi4) zcs zct)
                 case kmy => rfl
                case kmw => rfl
               case kmq =>
                intro _ _ _ _ _
                refine' pg_tup ?kmz ?kna ?knb ?knc
                case kmz => exact rfl
                case kna =>
                 refine' pgs_cons ?knd ?kne ?knf
                 case knd =>
                  refine' pg_name (i := 0) ?kng ?knh ?kni ?knj
                  case kng => exact zjd.nd
                  case knh => exact rfl
                  case kni => exact (locO zje)
                  case knj => exact (.inr (lookup_relabel_local zje))
                 case kne =>
                  refine' pgs_cons ?knk pgs_nil ?knl
                  case knk =>
                   refine' pg_name (i := 1) ?knm ?knn ?kno ?knp
                   case knm => exact zjd.nd
                   case knn => exact rfl
                   case kno => exact (locO zjf)
                   case knp => exact (.inr (lookup_relabel_local zjf))
                  case knl => rfl
                 case knf => rfl
                case knb => rfl
                case knc => rfl
               case kmr =>
                intro _ _ _ _ _
                refine' pe_cmpR ?knq ?knr ?kns ?knt
                case knq => exact op_notIn_seq
                case knr => exact (pq 1 (visO zjf) zia zib)
                case kns =>
                 refine' pe_slice ?knu ?knv po_none ?knw
                 case knu => exact sl_list
                 case knv => exact (pq 2 (visF zjg) zcs zct)
                 case knw =>
                  refine' po_some ?knx
                  case knx => exact (pq 0 (visO zje) zbf zbg)
                case knt => exact (by with_unfolding_all rfl)
               case kms => intro _; rfl
              case kmm => rfl
             case kmj => rfl
             case kmk => rfl
  refine ⟨_, rfl, v1, rfl, d1.sh, fun H1 s1 => ?_⟩
  cases hr1 : rowOf H v1 with
  | none => exact ⟨false, rfl, iteT (no (fun ⟨_, _, _, _, _, b⟩ => by have := b.kinds.1; rw [hr1] at this; cases this) _ s1)⟩
  | some us =>
  refine ⟨true, rfl, iteF ?_⟩
  obtain ⟨a, rfl, hA⟩ := rowOf.lt hr1
  refine ⟨_, rfl, a, _, rfl, (hA.same s1).sq, _, _, rfl, rfl, _, rfl, ?_⟩
  have bad : ¬ (1 ≤ us.length ∧ us.length ≤ 4) → ¬ BookV H (.ref a) v2 v3 := fun hb ⟨_, _, _, _, _, b⟩ => hb (by
   have e := b.kinds.1; rw [hr1] at e; cases e
   rw [List.length_map]; exact ⟨b.kinds.2.k1, b.kinds.2.k4⟩)
  by_cases k1 : 1 ≤ us.length
  case neg => exact ifF (by simp; omega) ⟨false, rfl, iteT (no (bad fun z => k1 z.1) _ s1)⟩
  refine ifT (decide_eq_true (by omega)) ?_
  refine ⟨_, _, rfl, rfl, _, rfl, ?_⟩
  by_cases k4 : us.length ≤ 4
  case neg => exact ifT (by simp; omega) (no (bad fun z => k4 z.2) _ s1)
  refine ifF (by simp; omega) ?_
  refine (hA.same s1).over rfl fun J O => ?_
  intro cl C1 ex s0 H0
  refine Over.truths O (Same.refl _) (Nat.le_trans k4 (by decide)) NmV (fun x H2 hx s2 N hN => ⟨_, rfl, x, rfl, (d1.2 _ hr1 x hx).same (s1.trans s2), hN⟩) fun D H2 hD s2 => ?_
  have s02 := s1.trans s2
  refine ⟨D, _, rfl, SqL.of hD, ?_⟩
  by_cases hall : ∀ x ∈ us, NmV x
  case neg =>
   refine ⟨false, by rw [not_all_tr hall], iteT (no (fun ⟨ks, _, _, _, _, b⟩ => hall fun x hx => ?_) _ s02)⟩
   have e := b.kinds.1; rw [hr1] at e; cases e
   obtain ⟨k, hk, rfl⟩ := List.mem_map.mp hx
   exact ⟨k, rfl, b.kinds.2.kn2 k hk⟩
  refine ⟨true, by rw [all_tr.mpr hall], iteF ?_⟩
  obtain ⟨ks, rfl, hkn⟩ := strs_of hall
  rw [List.length_map] at k1 k4
  refine ⟨_, rfl, v2, rfl, d2.sh.same s02, fun H3 s3 => ?_⟩
  rw [d2.sh.rows s02]
  have s03 := s02.trans s3
  cases hr2 : rowOf H v2 with
  | none => exact ⟨false, rfl, iteT (no (fun ⟨_, _, _, _, _, b⟩ => by rw [b.r2] at hr2; cases hr2) _ s03)⟩
  | some xs =>
  refine ⟨true, rfl, iteF ?_⟩
  refine ⟨_, rfl, v3, rfl, d3.sh.same s03, fun H4 s4 => ?_⟩
  rw [d3.sh.rows s03]
  have s04 := s03.trans s4
  cases hr3 : rowOf H v3 with
  | none => exact ⟨false, rfl, iteT (no (fun ⟨_, _, _, _, _, b⟩ => by rw [b.r3] at hr3; cases hr3) _ s04)⟩
  | some zs =>
  refine ⟨true, rfl, iteF ?_⟩
  obtain ⟨b, rfl, hB⟩ := rowOf.lt hr2
  obtain ⟨c, rfl, hC⟩ := rowOf.lt hr3
  refine ⟨_, rfl, b, _, rfl, (hB.same s04).sq, _, rfl, c, _, rfl, (hC.same s04).sq, _, _, rfl, rfl, _, _, rfl, rfl, _, rfl, ?_⟩
  by_cases hl : xs.length + zs.length ≤ 8
  case neg =>
   refine ifT (by simp; omega) (no (fun ⟨_, _, _, _, _, bb⟩ => hl ?_) _ s04)
   have e := bb.r2; rw [hr2] at e; cases e
   have e := bb.r3; rw [hr3] at e; cases e
   exact bb.len
  refine ifF (by simp; omega) ?_
  have ku : ∀ {ks'}, KindsV H (.ref a) ks' → ks' = ks := fun h => strs_inj (Option.some.inj (h.1.symm.trans hr1))
  refine (hB.same s04).over rfl fun J O => ?_
  intro cl C1 ex s0 H0
  refine Over.truths O (Same.refl _) (Nat.le_trans (show xs.length ≤ 8 by omega) (by decide)) (fun x => ∃ nm, SgnRow H ks x 2 nm) (fun x H5 hx s5 N hN => ⟨_, rfl, _, rfl, a, ks, x, 2, rfl, by decide, by decide, (hA.same s04).same s5, (d2.2 _ hr2 x hx).same (s04.trans s5), fun H6 s6 => ?_⟩) fun D5 H5 hD5 s5 => ?_
  ·have e : (∃ nm, SgnRow H5 ks x 2 nm) = ∃ nm, SgnRow H ks x 2 nm := by
    refine propext ⟨fun ⟨nm, h⟩ => ⟨nm, ?_⟩, fun ⟨nm, h⟩ => ⟨nm, ?_⟩⟩
    ·rw [row_tie hkn] at h ⊢
     obtain ⟨ps, h⟩ := h
     exact ⟨ps, (tie_keep (d2.2 _ hr2 x hx) (.of (s04.trans s5))).mp h⟩
    ·rw [row_tie hkn] at h ⊢
     obtain ⟨ps, h⟩ := h
     exact ⟨ps, (tie_keep (d2.2 _ hr2 x hx) (.of (s04.trans s5))).mpr h⟩
   rw [e]; exact hN H6 s6
  have s05 := s04.trans s5
  refine ⟨D5, _, rfl, SqL.of hD5, ?_⟩
  by_cases hT : ∀ x ∈ xs, ∃ nm, SgnRow H ks x 2 nm
  case neg =>
   refine ⟨false, by rw [not_all_tr hT], iteT (no (fun ⟨_, _, _, _, _, bb⟩ => hT fun x hx => ?_) _ s05)⟩
   have e := ku bb.kinds; subst e
   have e := bb.r2; rw [hr2] at e; cases e
   obtain ⟨n, hn⟩ := bb.ties.mem x hx
   exact ⟨n, (row_tie hkn).mpr hn⟩
  refine ⟨true, by rw [all_tr.mpr hT], iteF ?_⟩
  refine (hC.same s05).over rfl fun J O => ?_
  intro cl C1 ex s0 H0
  refine Over.truths O (Same.refl _) (Nat.le_trans (show zs.length ≤ 8 by omega) (by decide)) (fun x => ∃ nm, SgnRow H ks x 3 nm) (fun x H6 hx s6 N hN => ⟨_, rfl, _, rfl, a, ks, x, 3, rfl, by decide, by decide, (hA.same s05).same s6, (d3.2 _ hr3 x hx).same (s05.trans s6), fun H7 s7 => ?_⟩) fun D6 H6 hD6 s6 => ?_
  ·have e : (∃ nm, SgnRow H6 ks x 3 nm) = ∃ nm, SgnRow H ks x 3 nm := by
    refine propext ⟨fun ⟨nm, h⟩ => ⟨nm, ?_⟩, fun ⟨nm, h⟩ => ⟨nm, ?_⟩⟩
    ·rw [row_fun hkn] at h ⊢
     obtain ⟨ps, kd, h⟩ := h
     exact ⟨ps, kd, (fun_keep (d3.2 _ hr3 x hx) (.of (s05.trans s6))).mp h⟩
    ·rw [row_fun hkn] at h ⊢
     obtain ⟨ps, kd, h⟩ := h
     exact ⟨ps, kd, (fun_keep (d3.2 _ hr3 x hx) (.of (s05.trans s6))).mpr h⟩
   rw [e]; exact hN H7 s7
  have s06 := s05.trans s6
  refine ⟨D6, _, rfl, SqL.of hD6, ?_⟩
  by_cases hF : ∀ x ∈ zs, ∃ nm, SgnRow H ks x 3 nm
  case neg =>
   refine ⟨false, by rw [not_all_tr hF], iteT (no (fun ⟨_, _, _, _, _, bb⟩ => hF fun x hx => ?_) _ s06)⟩
   have e := ku bb.kinds; subst e
   have e := bb.r3; rw [hr3] at e; cases e
   obtain ⟨n, hn⟩ := bb.funs.mem x hx
   exact ⟨n, (row_fun hkn).mpr hn⟩
  refine ⟨true, by rw [all_tr.mpr hF], iteF ?_⟩
  obtain ⟨ns, hns⟩ := prd_of (R := TieN H ks) fun x hx => let ⟨n, h⟩ := hT x hx; ⟨n, (row_tie hkn).mp h⟩
  obtain ⟨ms, hms⟩ := prd_of (R := FunN H ks) fun x hx => let ⟨n, h⟩ := hF x hx; ⟨n, (row_fun hkn).mp h⟩
  have book : BookV H (.ref a) (.ref b) (.ref c) ↔ (ns ++ ms).Nodup ∧ ks.Nodup := by
   constructor
   ·rintro ⟨_, _, _, _, _, bb⟩
    have e := ku bb.kinds; subst e
    have e := bb.r2; rw [hr2] at e; cases e
    have e := bb.r3; rw [hr3] at e; cases e
    rw [Prd.uniq TieN.uniq hns bb.ties, Prd.uniq FunN.uniq hms bb.funs]
    exact ⟨bb.apart, bb.kinds.2.kn⟩
   ·rintro ⟨h1, h2⟩
    exact ⟨ks, xs, zs, ns, ms, ⟨hr1, h2, k1, k4, hkn⟩, hr2, hr3, hl, hns, hms, h1⟩
  refine ⟨_, rfl, b, _, rfl, (hB.same s06).sq, fun L1 hL1 => ?_⟩
  have s07 := s06.trans (same_new hL1 (.lst xs))
  refine ⟨_, rfl, c, _, rfl, (hC.same s07).sq, fun L2 hL2 => ?_⟩
  have s08 := s07.trans (same_new hL2 (.lst zs))
  have small : xs.length + zs.length ≤ sizeLine := Nat.le_trans hl (by decide)
  refine ⟨L1, L2, xs, zs, rfl, rfl, same_new hL2 _ _ _ upd_same, upd_same, small, fun L3 hL3 => ?_⟩
  have s09 := s08.trans (same_new hL3 (.lst (xs ++ zs)))
  have e3 : (upd (upd (upd H6 L1 (.lst xs)) L2 (.lst zs)) L3 (.lst (xs ++ zs))) L3 = some (.lst (xs ++ zs)) := upd_same
  generalize (upd (upd (upd H6 L1 (.lst xs)) L2 (.lst zs)) L3 (.lst (xs ++ zs))) = H9 at s09 e3
  refine ⟨L3, rfl, ⟨_, SqL.of e3⟩, ?_⟩
  have n0 : Prd (N0 H) (xs ++ zs) (ns ++ ms) := (hns.imp fun _ _ _ h => h.n0).append (hms.imp fun _ _ _ h => h.n0)
  have dxz : ∀ x ∈ xs ++ zs, Sh H x := fun x hx => (List.mem_append.mp hx).elim (fun h => (d2.2 _ hr2 x h).sh) fun h => (d3.2 _ hr3 x h).sh
  intro cl C1 ex s0 H0
  refine comp_it1 (xs ++ zs).length (fun i ys HC => ys = ((ns ++ ms).take i).map V.str ∧ Same H9 HC) (fun i y => (xs ++ zs)[i]? = some y) ⟨rfl, Same.refl _⟩ (by rw [List.length_append]; exact small) (fun i ys HC hi _ ⟨_, z⟩ => go_list (SqL.of (z _ _ e3)) hi) (fun ys HC _ ⟨_, z⟩ => stop_list (SqL.of (z _ _ e3))) ?_ ?_
  ·rintro i y ys HC hi hy _ ⟨rfl, sC⟩
   obtain ⟨n, hn, r, hrow⟩ := n0.get hy
   obtain ⟨py, rfl, hpy⟩ := rowOf.lt hrow
   refine ⟨_, rfl, (hpy.same (s09.trans sC)).ix at0 ⟨?_, sC⟩⟩
   rw [List.take_succ, hn]
   exact (List.map_append (l₂ := [n])).symm
  rintro ys HC hyl ⟨rfl, sC⟩ D7 hD7
  rw [List.take_of_length_le (by rw [n0.length]; exact Nat.le_refl _)]
  have s0D := (s09.trans sC).trans (same_new hD7 (.lst ((ns ++ ms).map V.str)))
  have e7 : (upd HC D7 (.lst ((ns ++ ms).map V.str))) D7 = some (.lst ((ns ++ ms).map V.str)) := upd_same
  generalize (upd HC D7 (.lst ((ns ++ ms).map V.str))) = HD at s0D e7
  have nl : (ns ++ ms).length ≤ 8 := by rw [← n0.length, List.length_append]; exact hl
  refine ⟨_, rfl, D7, _, rfl, SqL.of e7, ?_⟩
  intro cl C1 ex s0 H0
  refine enum_compF e7 (by rw [List.length_map]; exact Nat.le_trans nl (by decide)) (fun i ys HE => ys = (firsts (ns ++ ms) i).map V.str ∧ Same HD HE) ⟨rfl, Same.refl _⟩ (fun i ys HE h => h.2) ?_ ?_
  ·rintro i x ys HE HF hi ⟨rfl, sE⟩ sF k hk
   rw [List.getElem?_map] at hi
   obtain ⟨n, hn, rfl⟩ := Option.map_eq_some_iff.mp hi
   refine ⟨_, rfl, _, rfl, _, rfl, (i : Int), rfl, D7, _, rfl, SqL.of (sF _ _ (sE _ _ e7)), fun p hp => ?_⟩
   refine ⟨p, _, rfl, .inl (SqL.of upd_same), rfl, by rw [cutTo, ← List.map_take]; exact flat_strs _, _, rfl, hk _ _ ?_⟩
   rw [if_pos rfl, cutTo, ← List.map_take, inV_strs, firsts_succ hn]
   have sG := (sE.trans sF).trans (same_new hp (.lst (cutV (List.map V.str (ns ++ ms)) none (some (i : Int)))))
   rw [cutTo, ← List.map_take] at sG
   by_cases hm : n ∈ (ns ++ ms).take i
   ·rw [decide_eq_true hm, if_pos hm]
    exact iteF ⟨rfl, sG⟩
   ·rw [decide_eq_false hm, if_neg hm]
    exact iteT ⟨_, rfl, by rw [List.map_append]; rfl, sG⟩
  rintro ys HE ⟨rfl, sE⟩ D8 hD8
  rw [List.length_map]
  have s0E := (s0D.trans sE).trans (same_new hD8 (.lst ((firsts (ns ++ ms) (ns ++ ms).length).map V.str)))
  have e8 : (upd HE D8 (.lst ((firsts (ns ++ ms) (ns ++ ms).length).map V.str))) D8 = some (.lst ((firsts (ns ++ ms) (ns ++ ms).length).map V.str)) := upd_same
  have e78 : (upd HE D8 (.lst ((firsts (ns ++ ms) (ns ++ ms).length).map V.str))) D7 = some (.lst ((ns ++ ms).map V.str)) := same_new hD8 _ _ _ (sE _ _ e7)
  generalize (upd HE D8 (.lst ((firsts (ns ++ ms) (ns ++ ms).length).map V.str))) = HG at s0E e8 e78
  refine ⟨_, rfl, _, rfl, D8, D7, _, _, rfl, rfl, SqL.of e8, SqL.of e78, _, rfl, ?_⟩
  by_cases hu : firsts (ns ++ ms) (ns ++ ms).length = ns ++ ms
  case neg =>
   rw [decide_eq_false hu]
   exact iteF (no (fun bb => hu ((firsts_iff _).mpr (book.mp bb).1)) _ s0E)
  rw [decide_eq_true hu]
  refine iteT ?_
  have hAl : H a = some (.lst (ks.map V.str)) := by
   rcases hA with e | e
   ·exact e
   ·exact absurd ⟨by rw [List.length_map]; exact k1, by rw [List.length_map]; exact k4⟩ (nt a _ rfl e)
  have eK : HG a = some (.lst (ks.map V.str)) := s0E _ _ hAl
  refine ⟨_, rfl, a, _, rfl, SqL.of eK, ?_⟩
  intro cl C1 ex s0 H0
  refine enum_comp eK (by rw [List.length_map]; exact Nat.le_trans k4 (by decide)) (fun i ys HI => ys = ((List.range i).map fun j => tr (∀ x, ks[j]? = some x → ¬ x ∈ ks.take j)).map V.bl ∧ Same HG HI) ⟨rfl, Same.refl _⟩ (fun i ys HI h => h.2) ?_ ?_
  ·rintro i x ys HI HJ hi hy ⟨rfl, sI⟩ sJ
   rw [List.getElem?_map] at hi
   obtain ⟨n, hn, rfl⟩ := Option.map_eq_some_iff.mp hi
   refine ⟨_, rfl, _, rfl, _, rfl, (i : Int), rfl, a, _, rfl, SqL.of (sJ _ _ (sI _ _ eK)), fun p hp => ?_⟩
   refine ⟨p, _, rfl, .inl (SqL.of upd_same), rfl, by rw [cutTo, ← List.map_take]; exact flat_strs _, ?_, (sI.trans sJ).trans (same_new hp _)⟩
   rw [if_pos rfl, cutTo, ← List.map_take, inV_strs, List.range_succ, List.map_append, List.map_append]
   have e : tr (∀ x, ks[i]? = some x → ¬ x ∈ ks.take i) = !decide (n ∈ ks.take i) := by
    by_cases hm : n ∈ ks.take i
    ·rw [decide_eq_true hm, tr_no fun h => h n hn hm]; rfl
    ·rw [decide_eq_false hm, tr_of fun x hx => by rw [hn] at hx; cases hx; exact hm]; rfl
   show _ = _ ++ [V.bl (tr (∀ x, ks[i]? = some x → ¬ x ∈ ks.take i))]
   rw [e]
  ·rintro ys HI hy ⟨rfl, sI⟩ D9 hD9
   rw [List.length_map]
   refine ⟨D9, _, rfl, SqL.of upd_same, fin _ ?_ _ ((s0E.trans sI).trans (same_new hD9 _))⟩
   rw [book, List.all_map, List.all_eq_true]
   constructor
   ·intro h
    refine ⟨(firsts_iff _).mp hu, (nodup_take _).mpr fun i x hi => ?_⟩
    exact tr_true.mp (h i (List.mem_range.mpr (List.getElem?_eq_some_iff.mp hi).1)) x hi
   ·rintro ⟨_, h⟩ i hi
    exact tr_true.mpr ((nodup_take _).mp h i)
end
end FewE

set_option Elab.async false
set_option linter.all false
set_option maxRecDepth 100000
set_option maxHeartbeats 1000000
namespace FewE
open PySem L2 Few
theorem zjy : ((Str.ofString "_law_made" : Str) == ("__debug__" : Str)) = false := by decide +kernel
theorem zjz : ((Str.ofString "_law_made" : Str) == ("__classdict__" : Str)) = false := by decide +kernel
theorem zj0 : ((Str.ofString "_law_rows" : Str) == ("__debug__" : Str)) = false := by decide +kernel
theorem zj1 : ((Str.ofString "_law_rows" : Str) == ("__classdict__" : Str)) = false := by decide +kernel
def oddS : List Str := ["", "A", "abcdefghijklm", "a b", "b1", "a_", "a\n", "=", "all", "some", "not", "and", "or", "a", "zz"]
def smallS (z : Str) : Bool := z.cps.toList.all (fun c => decide (c < 16 ^ 8)) && decide (z.cps.size ≤ 13)
theorem ThR.small {R : Addr → Prop} {H : Hp} {z : Str} (h : smallS z = true) : ThR R H 0 13 (.str z) := by
 unfold smallS at h
 rw [Bool.and_eq_true, List.all_eq_true] at h
 exact ThR.ofStr (fun c hc => of_decide_eq_true (h.1 c hc)) (of_decide_eq_true h.2)
theorem oddS_small : ∀ z ∈ oddS, smallS z = true := by decide +kernel
theorem ThR.int7 {R : Addr → Prop} {H : Hp} : ThR R H 0 13 (.int 7) := ⟨_, .int 7, by decide +kernel, by decide +kernel, by decide +kernel, by decide +kernel⟩
theorem ThR.bool {R : Addr → Prop} {H : Hp} {b : Bool} : ThR R H 0 13 (.bl b) := ⟨_, .bl b, rfl, by simp [PyData.depth], rfl, by simp [PyData.weight]⟩
theorem ThR.none {R : Addr → Prop} {H : Hp} : ThR R H 0 13 .non := ⟨_, .non, rfl, by simp [PyData.depth], rfl, by simp [PyData.weight]⟩
theorem ThR.d0 {R : Addr → Prop} {a : Addr} {H : Hp} (h : R a) (e : H a = some (.dK [])) : ThR R H 2 40 (.ref a) := ⟨_, .d0 h e, by decide +kernel, by decide +kernel, by decide +kernel, by decide +kernel⟩
theorem ThR.d1 {R : Addr → Prop} {a : Addr} {H : Hp} (h : R a) (e : H a = some (.dK [(.inr "a", .int 1)])) : ThR R H 2 40 (.ref a) := ⟨_, .d1 h e, by decide +kernel, by decide +kernel, by decide +kernel, by decide +kernel⟩
theorem th2 {R : Addr → Prop} {H : Hp} {v : V} (h : ThR R H 0 13 v) : ThR R H 2 40 v := h.mono (by decide) (by decide)
theorem ThR.noTup {R : Addr → Prop} {G G' : Hp} {n W : Nat} {v : V} (h : ThR R G n W v) (hn : NoTup G v) (s : ∀ a o, R a → G a = some o → G' a = some o) : NoTup G' v := fun b ys e1 e2 => by
 subst e1
 obtain ⟨d, r, q⟩ := h
 cases r with
 | lst ra e z => rw [s _ _ ra e] at e2; cases e2
 | tup ra e z => rw [s _ _ ra e] at e2; cases e2; exact hn b _ rfl e
 | d0 ra e => rw [s _ _ ra e] at e2; cases e2
 | d1 ra e => rw [s _ _ ra e] at e2; cases e2
theorem th_a {R : Addr → Prop} {H : Hp} : ∀ x ∈ [V.str "a"], ThR R H 0 13 x := fun x hx => by rw [List.mem_singleton.mp hx]; exact ThR.small (by decide +kernel)
theorem odd_all {R : Addr → Prop} {t1 l1 d1 : Addr} {G : Hp} (nt : R t1) (nl : R l1) (nd : R d1) (et : G t1 = some (.tup [.str "a"])) (el : G l1 = some (.lst [.str "a"])) (ed : G d1 = some (.dK [])) :
  ∀ x ∈ oddS.map V.str ++ [.int 7, .bl true, .non, .ref t1, .ref l1, .ref d1, .str "abcdefghijkl", .str "aA", .str "-"], ThR R G 2 40 x := fun x hx => by
 rcases List.mem_append.mp hx with hx | hx
 ·obtain ⟨z, hz, rfl⟩ := List.mem_map.mp hx
  exact th2 (ThR.small (oddS_small z hz))
 ·simp only [List.mem_cons, List.not_mem_nil, or_false] at hx
  rcases hx with rfl | rfl | rfl | rfl | rfl | rfl | rfl | rfl | rfl
  ·exact th2 ThR.int7
  ·exact th2 ThR.bool
  ·exact th2 ThR.none
  ·exact ThR.row' nt (.inr et) th_a (m := 1) (by decide) (by decide) (by decide)
  ·exact ThR.row' nl (.inl el) th_a (m := 1) (by decide) (by decide) (by decide)
  ·exact ThR.d0 nd ed
  ·exact th2 (ThR.small (by decide +kernel))
  ·exact th2 (ThR.small (by decide +kernel))
  ·exact th2 (ThR.small (by decide +kernel))
def loM (d0 d1 e0 l0 l1 l2 l3 t5 l4 t0 : Addr) : List V := [.non, .int 7, .str "ab", .ref d0, .ref d1, .bl true, .str "", .ref l0, .ref l1, .ref l2, .ref l3, .ref t5, .ref l4, .ref t0]
theorem lo_all {R : Addr → Prop} {d0 d1 e0 l0 l1 l2 l3 t5 l4 t0 : Addr} {G : Hp} (n : R d0 ∧ R d1 ∧ R e0 ∧ R l0 ∧ R l1 ∧ R l2 ∧ R l3 ∧ R t5 ∧ R l4 ∧ R t0) (ed0 : G d0 = some (.dK [])) (ed1 : G d1 = some (.dK [(.inr "a", .int 1)])) (ee0 : G e0 = some (.lst []))
  (el0 : G l0 = some (.lst [.ref e0])) (el1 : G l1 = some (.lst [.non])) (el2 : G l2 = some (.lst [.int 7])) (el3 : G l3 = some (.lst [.str "a", .str "a"])) (et5 : G t5 = some (.tup [.str "a", .str "b", .str "c", .str "d", .str "e"])) (el4 : G l4 = some (.lst [])) (et0 : G t0 = some (.tup [])) :
  ∀ x ∈ loM d0 d1 e0 l0 l1 l2 l3 t5 l4 t0, ThR R G 2 80 x ∧ NoTup G x := fun x hx => by
 obtain ⟨n1, n2, n3, n4, n5, n6, n7, n8, n9, n10⟩ := n
 have up : ∀ {v}, ThR R G 0 13 v → ThR R G 2 80 v := fun h => h.mono (by decide) (by decide)
 have nil : ∀ x ∈ ([] : List V), ThR R G 0 13 x := fun _ z => nomatch z
 have one : ∀ {v : V}, ThR R G 0 13 v → ∀ x ∈ [v], ThR R G 0 13 x := fun h x hx => by rw [List.mem_singleton.mp hx]; exact h
 have nt : ∀ {a : Addr} {xs : List V}, G a = some (.lst xs) → NoTup G (.ref a) := fun e b ys e1 e2 => by cases e1; rw [e] at e2; cases e2
 have ntd : ∀ {a : Addr} {xs : List (Key × V)}, G a = some (.dK xs) → NoTup G (.ref a) := fun e b ys e1 e2 => by cases e1; rw [e] at e2; cases e2
 simp only [loM, List.mem_cons, List.not_mem_nil, or_false] at hx
 rcases hx with rfl | rfl | rfl | rfl | rfl | rfl | rfl | rfl | rfl | rfl | rfl | rfl | rfl | rfl
 ·exact ⟨up ThR.none, fun _ _ z => nomatch z⟩
 ·exact ⟨up ThR.int7, fun _ _ z => nomatch z⟩
 ·exact ⟨up (ThR.small (by decide +kernel)), fun _ _ z => nomatch z⟩
 ·exact ⟨(ThR.d0 n1 ed0).mono (by decide) (by decide), ntd ed0⟩
 ·exact ⟨(ThR.d1 n2 ed1).mono (by decide) (by decide), ntd ed1⟩
 ·exact ⟨up ThR.bool, fun _ _ z => nomatch z⟩
 ·exact ⟨up (ThR.small (by decide +kernel)), fun _ _ z => nomatch z⟩
 ·refine ⟨ThR.row' n4 (.inl el0) (n := 1) (W := 13) (m := 1) (fun x hx => ?_) (by simp) (by decide) (by decide), nt el0⟩
  rw [List.mem_singleton.mp hx]
  exact ThR.row' n3 (.inl ee0) nil (m := 0) (by decide) (by decide) (by decide)
 ·exact ⟨ThR.row' n5 (.inl el1) (one ThR.none) (m := 1) (by decide) (by decide) (by decide), nt el1⟩
 ·exact ⟨ThR.row' n6 (.inl el2) (one ThR.int7) (m := 1) (by decide) (by decide) (by decide), nt el2⟩
 ·exact ⟨ThR.row' n7 (.inl el3) (fun x hx => th_a x (by simpa using hx)) (m := 2) (by decide) (by decide) (by decide), nt el3⟩
 ·refine ⟨ThR.row' n8 (.inr et5) (n := 0) (W := 13) (m := 5) (fun x hx => ?_) (by decide) (by decide) (by decide), fun b ys e1 e2 => ?_⟩
  ·simp only [List.mem_cons, List.not_mem_nil, or_false] at hx
   rcases hx with rfl | rfl | rfl | rfl | rfl <;> exact ThR.small (by decide +kernel)
  ·cases e1; rw [et5] at e2; cases e2; decide
 ·exact ⟨ThR.row' n9 (.inl el4) nil (m := 0) (by decide) (by decide) (by decide), nt el4⟩
 ·refine ⟨ThR.row' n10 (.inr et0) nil (m := 0) (by decide) (by decide) (by decide), fun b ys e1 e2 => ?_⟩
  cases e1; rw [et0] at e2; cases e2; decide
section
variable {P : Program} {w : World} {K : PySem.W.Frag} {mg : Str → Option Value} {base : Heap}
abbrev s_law_odd : Stmt := top 35
theorem zj2 : FnScope ["_law_pot_here", "_law_menu"] ["_law_pot_here"] (defScope s_law_odd) := ⟨rfl, rfl, rfl, by decide +kernel, rfl, by decide +kernel, by decide +kernel⟩
theorem zj3 : (defScope s_law_odd).names.lookup (Str.ofString "_law_draw") = some NameKind.globalImplicit := by decide +kernel
theorem zj4 : (defScope s_law_odd).names.lookup (Str.ofString "_law_menu") = some NameKind.local := by decide +kernel
theorem zj5 : (defScope s_law_odd).names.lookup (Str.ofString "_law_pot_here") = some NameKind.local := by decide +kernel
theorem zj6 : (defScope s_law_odd).names.lookup (Str.ofString "len") = some NameKind.globalImplicit := by decide +kernel
def spOdd : Sp := fun vs H Q _ => ∃ p, vs = [.ref p] ∧ PotAt H p ∧ ∀ v H', ThR (fun a => H a = none) H' 2 40 v → Went p H H' → Q v H'
theorem ok_odd (F : FunAt K mg "_law_odd" s_law_odd ["_law_pot_here"]) (Z : Bl mg) (D_law_draw : Def P w K mg base "_law_draw" 1 ["_law_pot_here", "_law_many"] spDraw) : Def P w K mg base "_law_odd" 2 ["_law_pot_here"] spOdd := by
 have SC := zj2
 refine F.mk' (k := 1) zj2 (fun vs H Q E h => ?_) (fun f cdv A outer s H vs Q E hr h => ?_)
 ·obtain ⟨p, rfl, _⟩ := h
  rfl
 ·obtain ⟨p, rfl, hp, q⟩ := h
  refine' ⟨_, ?derivation, ?_⟩
  case derivation =>
   refine' pss_cons ?ka ?kb
   case ka =>
    refine' ps_set (i := 1) (x := Str.ofString "_law_menu") ?kc ?kd ?ke ?kf ?kg ?kh
    case kc => exact SC.nd
    case kd => exact rfl
    case ke => exact (Or.inl zj4)
    case kf =>
     refine' pe_lst ?ki
     case ki =>
      refine' pa_strs ?kj
      case kj => exact (by repeat constructor)
    case kg => rfl
    case kh => exact .inl rfl
   case kb =>
    refine' pss_cons ?kk ?kl
    case kk =>
     refine' ps_set (i := 1) (x := Str.ofString "_law_menu") ?km ?kn ?ko ?kp ?kq ?kr
     case km => exact SC.nd
     case kn => exact rfl
     case ko => exact (Or.inl zj4)
     case kp =>
      refine' pe_op ?ks ?kt ?ku
      case ks => exact op_cat
      case kt => exact (pq 1 (visL zj4) zbl zbm)
      case ku =>
       refine' pe_lst ?kv
       case kv =>
        refine' pa_cons ?kw ?kx ?ky
        case kw => exact pe_int
        case kx =>
         refine' pa_cons ?kz ?kba ?kbb
         case kz => exact pe_bl
         case kba =>
          refine' pa_cons ?kbc ?kbd ?kbe
          case kbc => exact pe_non
          case kbd =>
           refine' pa_cons ?kbf ?kbg ?kbh
           case kbf =>
            refine' pe_tup ?kbi
            case kbi =>
             refine' pa_cons ?kbj pa_nil ?kbk
             case kbj => exact pe_str
             case kbk => rfl
           case kbg =>
            refine' pa_cons ?kbl ?kbm ?kbn
            case kbl =>
             refine' pe_lst ?kbo
             case kbo =>
              refine' pa_cons ?kbp pa_nil ?kbq
              case kbp => exact pe_str
              case kbq => rfl
            case kbm =>
             refine' pa_cons ?kbr ?kbs ?kbt
             case kbr => exact pe_dnewK
             case kbs =>
              refine' pa_cons ?kbu ?kbv ?kbw
              case kbu => exact pe_str
              case kbv =>
               refine' pa_cons ?kbx ?kby ?kbz
               case kbx => exact pe_str
               case kby =>
                refine' pa_cons ?kca pa_nil ?kcb
                case kca => exact pe_str
                case kcb => rfl
               case kbz => rfl
              case kbw => rfl
             case kbt => rfl
            case kbn => rfl
           case kbh => rfl
          case kbe => rfl
         case kbb => rfl
        case ky => rfl
     case kq => rfl
     case kr => exact .inl rfl
    case kl =>
     refine' pss_one ?kcc
     case kcc =>
      refine' ps_ret ?kcd
      case kcd =>
       refine' pe_ix ?kce ?kcf ?kcg ?kch
       case kce => exact ix_list
       case kcf => exact (pq 1 (visL zj4) zbl zbm)
       case kcg =>
        refine' pe_def (hdb := zbe) ?kci ?kcj ?kck ?kcl ?kcm ?kcn
        case kci => exact D_law_draw
        case kcj => exact (hr.mono (by decide))
        case kck => exact zj3
        case kcl =>
         refine' pa_cons ?kco ?kcp ?kcq
         case kco => exact (pq 0 (visL zj5) zbn zbo)
         case kcp =>
          refine' pa_cons ?kcr pa_nil ?kcs
          case kcr =>
           refine' pe_callB (hn := zbw) (hdb := zbv) ?kct ?kcu ?kcv ?kcw ?kcx ?kcy ?kcz
           case kct => exact call_len_seq
           case kcu => exact zj6
           case kcv => exact Z.n_len
           case kcw => exact bt_len
           case kcx =>
            refine' pa_cons ?kda pa_nil ?kdb
            case kda => exact (pq 1 (visL zj4) zbl zbm)
            case kdb => rfl
           case kcy => rfl
           case kcz => rfl
          case kcs => rfl
         case kcq => rfl
        case kcm => rfl
        case kcn => rfl
       case kch =>
        intro _ _
        exact rfl
  have W0 := Went.refl hp
  refine ⟨by show 15 ≤ sizeLine; decide, fun M1 hM1 => ?_⟩
  have W1 := W0.new hM1 (.lst (oddS.map V.str))
  refine ⟨_, rfl, ?_⟩
  refine ⟨by show 1 ≤ sizeLine; decide, fun t1 ht1 => ?_⟩
  have W2 := W1.new ht1 (.tup [.str "a"])
  refine ⟨by show 1 ≤ sizeLine; decide, fun l1 hl1 => ?_⟩
  have W3 := W2.new hl1 (.lst [.str "a"])
  intro d1 hd1
  have W4 := W3.new hd1 (.dK [])
  refine ⟨by show 9 ≤ sizeLine; decide, fun M2 hM2 => ?_⟩
  have s2 := same_new ht1 (.tup [.str "a"])
  have s3 := same_new hl1 (.lst [.str "a"])
  have s4 := same_new hd1 (.dK [])
  have s5 := same_new hM2 (.lst [.int 7, .bl true, .non, .ref t1, .ref l1, .ref d1, .str "abcdefghijkl", .str "aA", .str "-"])
  have W5 := W4.new hM2 (.lst [.int 7, .bl true, .non, .ref t1, .ref l1, .ref d1, .str "abcdefghijkl", .str "aA", .str "-"])
  refine ⟨M1, M2, oddS.map V.str, _, rfl, rfl, s5 _ _ (s4 _ _ (s3 _ _ (s2 _ _ upd_same))), upd_same, by show 24 ≤ sizeLine; decide, fun M3 hM3 => ?_⟩
  have s6 := same_new hM3 (.lst (oddS.map V.str ++ [.int 7, .bl true, .non, .ref t1, .ref l1, .ref d1, .str "abcdefghijkl", .str "aA", .str "-"]))
  have W6 := W5.new hM3 (.lst (oddS.map V.str ++ [.int 7, .bl true, .non, .ref t1, .ref l1, .ref d1, .str "abcdefghijkl", .str "aA", .str "-"]))
  have et := s6 _ _ (s5 _ _ (s4 _ _ (s3 _ _ (upd_same (H := upd H M1 (.lst (oddS.map V.str))) (a := t1) (o := .tup [.str "a"])))))
  have el := s6 _ _ (s5 _ _ (s4 _ _ (upd_same (H := upd (upd H M1 (.lst (oddS.map V.str))) t1 (.tup [.str "a"])) (a := l1) (o := .lst [.str "a"]))))
  have ed := s6 _ _ (s5 _ _ (upd_same (H := upd (upd (upd H M1 (.lst (oddS.map V.str))) t1 (.tup [.str "a"])) l1 (.lst [.str "a"])) (a := d1) (o := .dK [])))
  have nt := W1.free ht1
  have nl := W2.free hl1
  have nd := W3.free hd1
  have keep : ∀ {H7 H8 : Hp}, SameX p H7 H8 → ∀ a o, H a = none → H7 a = some o → H8 a = some o := fun s a o ha e => s a o (fun z => by obtain ⟨o, e⟩ := hp.some; rw [← z, ha] at e; cases e) e
  have nM := Ne.symm (W5.ne hM3)
  have all := odd_all (R := fun a => H a = none) nt nl nd et el ed
  refine ⟨_, rfl, _, rfl, _, rfl, M3, _, rfl, .inl (SqL.of upd_same), p, _, rfl, W6.pot, by simp [oddS], by simp [oddS], fun r H7 a0 a1 hp7 s7 => ?_⟩
  have hr7 : r.toNat < (oddS.map V.str ++ [V.int 7, .bl true, .non, .ref t1, .ref l1, .ref d1, .str "abcdefghijkl", .str "aA", .str "-"]).length := by omega
  refine ⟨M3, _, r, _, rfl, rfl, SqL.of (s7 _ _ nM upd_same), atI_int a0 (List.getElem?_eq_getElem hr7), q _ _ ((all _ (List.getElem_mem hr7)).reg (fun _ z => z) (keep s7)) (W6.mk1 hp7 s7)⟩
abbrev s_law_list_odd : Stmt := top 36
theorem zj7 : FnScope ["_law_pot_here", "_law_menu"] ["_law_pot_here"] (defScope s_law_list_odd) := ⟨rfl, rfl, rfl, by decide +kernel, rfl, by decide +kernel, by decide +kernel⟩
theorem zj8 : (defScope s_law_list_odd).names.lookup (Str.ofString "_law_draw") = some NameKind.globalImplicit := by decide +kernel
theorem zj9 : (defScope s_law_list_odd).names.lookup (Str.ofString "_law_menu") = some NameKind.local := by decide +kernel
theorem zka : (defScope s_law_list_odd).names.lookup (Str.ofString "_law_pot_here") = some NameKind.local := by decide +kernel
theorem zkb : (defScope s_law_list_odd).names.lookup (Str.ofString "len") = some NameKind.globalImplicit := by decide +kernel
def spListOdd : Sp := fun vs H Q _ => ∃ p, vs = [.ref p] ∧ PotAt H p ∧ ∀ v H', ThR (fun a => H a = none) H' 2 80 v → NoTup H' v → Went p H H' → Q v H'
theorem ok_list_odd (F : FunAt K mg "_law_list_odd" s_law_list_odd ["_law_pot_here"]) (Z : Bl mg) (D_law_draw : Def P w K mg base "_law_draw" 1 ["_law_pot_here", "_law_many"] spDraw) : Def P w K mg base "_law_list_odd" 2 ["_law_pot_here"] spListOdd := by
 have SC := zj7
 refine F.mk' (k := 1) zj7 (fun vs H Q E h => ?_) (fun f cdv A outer s H vs Q E hr h => ?_)
 ·obtain ⟨p, rfl, _⟩ := h
  rfl
 ·obtain ⟨p, rfl, hp, q⟩ := h
  refine' ⟨_, ?derivation, ?_⟩
  case derivation =>
   refine' pss_cons ?ka ?kb
   case ka =>
    refine' ps_set (i := 1) (x := Str.ofString "_law_menu") ?kc ?kd ?ke ?kf ?kg ?kh
    case kc => exact SC.nd
    case kd => exact rfl
    case ke => exact (Or.inl zj9)
    case kf =>
     refine' pe_lst ?ki
     case ki =>
      refine' pa_cons ?kj ?kk ?kl
      case kj => exact pe_non
      case kk =>
       refine' pa_cons ?km ?kn ?ko
       case km => exact pe_int
       case kn =>
        refine' pa_cons ?kp ?kq ?kr
        case kp => exact pe_str
        case kq =>
         refine' pa_cons ?ks ?kt ?ku
         case ks => exact pe_dnewK
         case kt =>
          refine' pa_cons ?kv ?kw ?kx
          case kv =>
           refine' pe_disp ?ky ?kz ?kba ?kbb ?kbc
           case ky =>
            refine' pps_cons ?kbd ?kbe ?kbf
            case kbd => exact pe_str
            case kbe => exact pe_int
            case kbf => exact pps_nil
           case kz => exact rfl
           case kba => exact rfl
           case kbb => exact (by simp)
           case kbc => exact (by decide)
          case kw =>
           refine' pa_cons ?kbg ?kbh ?kbi
           case kbg => exact pe_bl
           case kbh =>
            refine' pa_cons ?kbj ?kbk ?kbl
            case kbj => exact pe_str
            case kbk =>
             refine' pa_cons ?kbm ?kbn ?kbo
             case kbm =>
              refine' pe_lst ?kbp
              case kbp =>
               refine' pa_cons ?kbq pa_nil ?kbr
               case kbq =>
                refine' pe_lst pa_nil
               case kbr => rfl
             case kbn =>
              refine' pa_cons ?kbs ?kbt ?kbu
              case kbs =>
               refine' pe_lst ?kbv
               case kbv =>
                refine' pa_cons ?kbw pa_nil ?kbx
                case kbw => exact pe_non
                case kbx => rfl
              case kbt =>
               refine' pa_cons ?kby ?kbz ?kca
               case kby =>
                refine' pe_lst ?kcb
                case kcb =>
                 refine' pa_cons ?kcc pa_nil ?kcd
                 case kcc => exact pe_int
                 case kcd => rfl
               case kbz =>
                refine' pa_cons ?kce ?kcf ?kcg
                case kce =>
                 refine' pe_lst ?kch
                 case kch =>
                  refine' pa_cons ?kci ?kcj ?kck
                  case kci => exact pe_str
                  case kcj =>
                   refine' pa_cons ?kcl pa_nil ?kcm
                   case kcl => exact pe_str
                   case kcm => rfl
                  case kck => rfl
                case kcf =>
                 refine' pa_cons ?kcn ?kco ?kcp
                 case kcn =>
                  refine' pe_tup ?kcq
                  case kcq =>
                   refine' pa_strs ?kcr
                   case kcr => exact (by repeat constructor)
                 case kco =>
                  refine' pa_cons ?kcs ?kct ?kcu
                  case kcs =>
                   refine' pe_lst pa_nil
                  case kct =>
                   refine' pa_cons ?kcv pa_nil ?kcw
                   case kcv =>
                    refine' pe_tup pa_nil
                   case kcw => rfl
                  case kcu => rfl
                 case kcp => rfl
                case kcg => rfl
               case kca => rfl
              case kbu => rfl
             case kbo => rfl
            case kbl => rfl
           case kbi => rfl
          case kx => rfl
         case ku => rfl
        case kr => rfl
       case ko => rfl
      case kl => rfl
    case kg => rfl
    case kh => exact .inl rfl
   case kb =>
    refine' pss_one ?kcx
    case kcx =>
     refine' ps_ret ?kcy
     case kcy =>
      refine' pe_ix ?kcz ?kda ?kdb ?kdc
      case kcz => exact ix_list
      case kda => exact (pq 1 (visL zj9) zbl zbm)
      case kdb =>
       refine' pe_def (hdb := zbe) ?kdd ?kde ?kdf ?kdg ?kdh ?kdi
       case kdd => exact D_law_draw
       case kde => exact (hr.mono (by decide))
       case kdf => exact zj8
       case kdg =>
        refine' pa_cons ?kdj ?kdk ?kdl
        case kdj => exact (pq 0 (visL zka) zbn zbo)
        case kdk =>
         refine' pa_cons ?kdm pa_nil ?kdn
         case kdm =>
          refine' pe_callB (hn := zbw) (hdb := zbv) ?kdo ?kdp ?kdq ?kdr ?kds ?kdt ?kdu
          case kdo => exact call_len_seq
          case kdp => exact zkb
          case kdq => exact Z.n_len
          case kdr => exact bt_len
          case kds =>
           refine' pa_cons ?kdv pa_nil ?kdw
           case kdv => exact (pq 1 (visL zj9) zbl zbm)
           case kdw => rfl
          case kdt => rfl
          case kdu => rfl
         case kdn => rfl
        case kdl => rfl
       case kdh => rfl
       case kdi => rfl
      case kdc =>
       intro _ _
       exact rfl
  have W0 := Went.refl hp
  have keep : ∀ {H7 H8 : Hp}, SameX p H7 H8 → ∀ a o, H a = none → H7 a = some o → H8 a = some o := fun s a o ha e => s a o (fun z => by obtain ⟨o, e⟩ := hp.some; rw [← z, ha] at e; cases e) e
  intro d0 hd0
  have W1 := W0.new hd0 (.dK [])
  intro d1 hd1
  have W2 := W1.new hd1 (.dK [])
  have n1 := Ne.symm (W0.ne hd0)
  have n2 := Ne.symm (W1.ne hd1)
  refine ⟨upd_same, [(.inr "a", .int 1)], rfl, by decide, ?_⟩
  have W3 := W2.put (Ne.symm n2) (W1.free hd1) (.dK [(.inr "a", .int 1)])
  have e0' : (upd (upd (upd H d0 (.dK [])) d1 (.dK [])) d1 (.dK [(.inr "a", .int 1)])) d0 = some (.dK []) := by
   have hne : d0 ≠ d1 := ne_of_none (upd_same (H := H) (a := d0) (o := .dK [])) hd1
   rw [upd_ne hne, upd_ne hne]; exact upd_same
  have e1' : (upd (upd (upd H d0 (.dK [])) d1 (.dK [])) d1 (.dK [(.inr "a", .int 1)])) d1 = some (.dK [(.inr "a", .int 1)]) := upd_same
  show tCons _ _ _ (upd (upd (upd H d0 (.dK [])) d1 (.dK [])) d1 (.dK [(.inr "a", .int 1)])) _
  generalize (upd (upd (upd H d0 (.dK [])) d1 (.dK [])) d1 (.dK [(.inr "a", .int 1)])) = G0 at W3 e0' e1'
  refine ⟨by show 0 ≤ sizeLine; decide, fun e0 he0 => ?_⟩
  have n_e0 := Ne.symm (W3.ne he0)
  have W_e0 := W3.new he0 (.lst [])
  have s_e0 := same_new he0 (.lst [])
  refine ⟨by show 1 ≤ sizeLine; decide, fun l0 hl0 => ?_⟩
  have n_l0 := Ne.symm (W_e0.ne hl0)
  have W_l0 := W_e0.new hl0 (.lst [.ref e0])
  have s_l0 := same_new hl0 (.lst [.ref e0])
  refine ⟨by show 1 ≤ sizeLine; decide, fun l1 hl1 => ?_⟩
  have n_l1 := Ne.symm (W_l0.ne hl1)
  have W_l1 := W_l0.new hl1 (.lst [.non])
  have s_l1 := same_new hl1 (.lst [.non])
  refine ⟨by show 1 ≤ sizeLine; decide, fun l2 hl2 => ?_⟩
  have n_l2 := Ne.symm (W_l1.ne hl2)
  have W_l2 := W_l1.new hl2 (.lst [.int 7])
  have s_l2 := same_new hl2 (.lst [.int 7])
  refine ⟨by show 2 ≤ sizeLine; decide, fun l3 hl3 => ?_⟩
  have n_l3 := Ne.symm (W_l2.ne hl3)
  have W_l3 := W_l2.new hl3 (.lst [.str "a", .str "a"])
  have s_l3 := same_new hl3 (.lst [.str "a", .str "a"])
  refine ⟨by show 5 ≤ sizeLine; decide, fun t5 ht5 => ?_⟩
  have n_t5 := Ne.symm (W_l3.ne ht5)
  have W_t5 := W_l3.new ht5 (.tup [.str "a", .str "b", .str "c", .str "d", .str "e"])
  have s_t5 := same_new ht5 (.tup [.str "a", .str "b", .str "c", .str "d", .str "e"])
  refine ⟨by show 0 ≤ sizeLine; decide, fun l4 hl4 => ?_⟩
  have n_l4 := Ne.symm (W_t5.ne hl4)
  have W_l4 := W_t5.new hl4 (.lst [])
  have s_l4 := same_new hl4 (.lst [])
  refine ⟨by show 0 ≤ sizeLine; decide, fun t0 ht0 => ?_⟩
  have n_t0 := Ne.symm (W_l4.ne ht0)
  have W_t0 := W_l4.new ht0 (.tup [])
  have s_t0 := same_new ht0 (.tup [])
  refine ⟨by show 14 ≤ sizeLine; decide, fun M hM => ?_⟩
  have n_M := Ne.symm (W_t0.ne hM)
  have W_M := W_t0.new hM (.lst (loM d0 d1 e0 l0 l1 l2 l3 t5 l4 t0))
  have s_M := same_new hM (.lst (loM d0 d1 e0 l0 l1 l2 l3 t5 l4 t0))
  have all := lo_all (R := fun a => H a = none) (e0 := e0) (d0 := d0) (d1 := d1) (l0 := l0) (l1 := l1) (l2 := l2) (l3 := l3) (t5 := t5) (l4 := l4) (t0 := t0) ⟨hd0, W1.free hd1, W3.free he0, W_e0.free hl0, W_l0.free hl1, W_l1.free hl2, W_l2.free hl3, W_l3.free ht5, W_t5.free hl4, W_l4.free ht0⟩ (s_M _ _ (s_t0 _ _ (s_l4 _ _ (s_t5 _ _ (s_l3 _ _ (s_l2 _ _ (s_l1 _ _ (s_l0 _ _ (s_e0 _ _ (e0')))))))))) (s_M _ _ (s_t0 _ _ (s_l4 _ _ (s_t5 _ _ (s_l3 _ _ (s_l2 _ _ (s_l1 _ _ (s_l0 _ _ (s_e0 _ _ (e1')))))))))) (s_M _ _ (s_t0 _ _ (s_l4 _ _ (s_t5 _ _ (s_l3 _ _ (s_l2 _ _ (s_l1 _ _ (s_l0 _ _ (upd_same))))))))) (s_M _ _ (s_t0 _ _ (s_l4 _ _ (s_t5 _ _ (s_l3 _ _ (s_l2 _ _ (s_l1 _ _ (upd_same)))))))) (s_M _ _ (s_t0 _ _ (s_l4 _ _ (s_t5 _ _ (s_l3 _ _ (s_l2 _ _ (upd_same))))))) (s_M _ _ (s_t0 _ _ (s_l4 _ _ (s_t5 _ _ (s_l3 _ _ (upd_same)))))) (s_M _ _ (s_t0 _ _ (s_l4 _ _ (s_t5 _ _ (upd_same))))) (s_M _ _ (s_t0 _ _ (s_l4 _ _ (upd_same)))) (s_M _ _ (s_t0 _ _ (upd_same))) (s_M _ _ (upd_same))
  refine ⟨_, rfl, _, rfl, _, rfl, M, _, rfl, .inl (SqL.of upd_same), p, _, rfl, W_M.pot, by simp, by simp, fun r H7 a0 a1 hp7 s7 => ?_⟩
  have hr7 : r.toNat < (loM d0 d1 e0 l0 l1 l2 l3 t5 l4 t0).length := by show r.toNat < 14; have : r < 14 := a1; omega
  have al := all _ (List.getElem_mem hr7)
  refine ⟨M, loM d0 d1 e0 l0 l1 l2 l3 t5 l4 t0, r, _, rfl, rfl, SqL.of (s7 _ _ n_M upd_same), atI_int a0 (List.getElem?_eq_getElem hr7), q _ _ (al.1.reg (fun _ z => z) (keep s7)) (al.1.noTup al.2 (keep s7)) (W_M.mk1 hp7 s7)⟩
abbrev s_law_put : Stmt := top 37
theorem zkc : FnScope ["_law_pot_here", "_law_rows", "_law_thing", "_law_made"] ["_law_pot_here", "_law_rows", "_law_thing"] (defScope s_law_put) := ⟨rfl, rfl, rfl, by decide +kernel, rfl, by decide +kernel, by decide +kernel⟩
theorem zkd : (defScope s_law_put).names.lookup (Str.ofString "_law_draw") = some NameKind.globalImplicit := by decide +kernel
theorem zke : (defScope s_law_put).names.lookup (Str.ofString "_law_made") = some NameKind.local := by decide +kernel
theorem zkf : (defScope s_law_put).names.lookup (Str.ofString "_law_pot_here") = some NameKind.local := by decide +kernel
theorem zkg : (defScope s_law_put).names.lookup (Str.ofString "_law_rows") = some NameKind.local := by decide +kernel
theorem zkh : (defScope s_law_put).names.lookup (Str.ofString "_law_thing") = some NameKind.local := by decide +kernel
theorem zki : (defScope s_law_put).names.lookup (Str.ofString "len") = some NameKind.globalImplicit := by decide +kernel
theorem zkj : (defScope s_law_put).names.lookup (Str.ofString "list") = some NameKind.globalImplicit := by decide +kernel
def spPut : Sp := fun vs H Q _ => ∃ (p a : Addr) (xs : List V) (t : V), vs = [.ref p, .ref a, t] ∧ PotAt H p ∧ LT H a xs ∧ xs.length < 1000 ∧ ∀ l ys H', H l = none → H' l = some (.lst ys) → ys.length ≤ xs.length + 1 → (xs ≠ [] → ys.length = xs.length) → (∀ y ∈ ys, y ∈ xs ∨ y = t) → Went p H H' → Q (.ref l) H'
theorem ok_put (F : FunAt K mg "_law_put" s_law_put ["_law_pot_here", "_law_rows", "_law_thing"]) (Z : Bl mg) (D_law_draw : Def P w K mg base "_law_draw" 1 ["_law_pot_here", "_law_many"] spDraw) : Def P w K mg base "_law_put" 2 ["_law_pot_here", "_law_rows", "_law_thing"] spPut := by
 have SC := zkc
 refine F.mk' (k := 1) zkc (fun vs H Q E h => ?_) (fun f cdv A outer s H vs Q E hr h => ?_)
 ·obtain ⟨p, a, xs, t, rfl, _⟩ := h
  rfl
 ·obtain ⟨p, a, xs, t, rfl, hp, hL, hl, q⟩ := h
  refine' ⟨_, ?derivation, ?_⟩
  case derivation =>
   refine' pss_cons ?ka ?kb
   case ka =>
    refine' ps_set (i := 3) (x := Str.ofString "_law_made") ?kc ?kd ?ke ?kf ?kg ?kh
    case kc => exact SC.nd
    case kd => exact rfl
    case ke => exact (Or.inl zke)
    case kf =>
     refine' pe_callTy (hn := zby) (hdb := zbx) ?ki ?kj ?kk ?kl ?km ?kn ?ko
     case ki => exact call_list_of
     case kj => exact zkj
     case kk => exact Z.n_list
     case kl => exact bt_list
     case km =>
      refine' pa_cons ?kp pa_nil ?kq
      case kp => exact (pq 1 (visL zkg) zj0 zj1)
      case kq => rfl
     case kn => rfl
     case ko => rfl
    case kg => rfl
    case kh => exact .inl rfl
   case kb =>
    refine' pss_cons ?kr ?ks
    case kr =>
     refine' ps_if ?kt ?ku pss_nil
     case kt =>
      refine' pt_cmpR ?kv ?kw ?kx ?ky
      case kv => exact (op_eqL0 hr.units0)
      case kw => exact (pq 3 (visL zke) zjy zjz)
      case kx =>
       refine' pe_lst pa_nil
      case ky => exact (nomark _)
     case ku =>
      refine' pss_one ?kz
      case kz =>
       refine' ps_ret ?kba
       case kba =>
        refine' pe_lst ?kbb
        case kbb =>
         refine' pa_cons ?kbc pa_nil ?kbd
         case kbc => exact (pq 2 (visL zkh) zhv zhw)
         case kbd => rfl
    case ks =>
     refine' pss_cons ?kbe ?kbf
     case kbe =>
      refine' ps_asg ?kbg ?kbh ?kbi ?kbj ?kbk
      case kbg => exact (pq 2 (visL zkh) zhv zhw)
      case kbh =>
       refine' pg_sub ?kbl ?kbm ?kbn ?kbo
       case kbl => exact (pq 3 (visL zke) zjy zjz)
       case kbm =>
        refine' pe_def (hdb := zbe) ?kbp ?kbq ?kbr ?kbs ?kbt ?kbu
        case kbp => exact D_law_draw
        case kbq => exact (hr.mono (by decide))
        case kbr => exact zkd
        case kbs =>
         refine' pa_cons ?kbv ?kbw ?kbx
         case kbv => exact (pq 0 (visL zkf) zbn zbo)
         case kbw =>
          refine' pa_cons ?kby pa_nil ?kbz
          case kby =>
           refine' pe_callB (hn := zbw) (hdb := zbv) ?kca ?kcb ?kcc ?kcd ?kce ?kcf ?kcg
           case kca => exact call_len_seq
           case kcb => exact zki
           case kcc => exact Z.n_len
           case kcd => exact bt_len
           case kce =>
            refine' pa_cons ?kch pa_nil ?kci
            case kch => exact (pq 3 (visL zke) zjy zjz)
            case kci => rfl
           case kcf => rfl
           case kcg => rfl
          case kbz => rfl
         case kbx => rfl
        case kbt => rfl
        case kbu => rfl
       case kbn => exact set_list
       case kbo => intro _; rfl
      case kbi => rfl
      case kbj => rfl
      case kbk => rfl
     case kbf =>
      refine' pss_one ?kcj
      case kcj =>
       refine' ps_ret ?kck
       case kck => exact (pq 3 (visL zke) zjy zjz)
  have W0 := Went.refl hp
  refine ⟨_, rfl, a, _, rfl, hL.sq, fun M hM => ?_⟩
  have W1 := W0.new hM (.lst xs)
  refine ⟨_, rfl, by show 0 ≤ sizeLine; decide, fun N hN => ?_⟩
  have W2 := W1.new hN (.lst [])
  have sN := same_new hN (.lst [])
  refine ⟨M, N, xs, rfl, rfl, SqL.of (sN _ _ upd_same), SqL.of upd_same, _, rfl, ?_⟩
  cases xs with
  | nil =>
   refine iteT ⟨_, rfl, by show 1 ≤ sizeLine; decide, fun l hl' => ?_⟩
   exact q l [t] _ (W2.free hl') upd_same (by simp) (fun z => absurd rfl z) (fun y hy => .inr (List.mem_singleton.mp hy)) (W2.new hl' _)
  | cons x r =>
   refine iteF ?_
   have nM := Ne.symm (W0.ne hM)
   refine ⟨_, rfl, _, rfl, _, rfl, _, rfl, M, _, rfl, .inl (SqL.of (sN _ _ upd_same)), p, _, rfl, W2.pot, by simp, by simp at hl ⊢; omega, fun i H3 a0 a1 hp3 s3 => ?_⟩
   have hM3 : H3 M = some (.lst (x :: r)) := s3 _ _ nM (sN _ _ upd_same)
   refine ⟨M, _, i, i.toNat, rfl, rfl, hM3, by unfold ixN; rw [if_pos a0, if_pos a1], _, rfl, ?_⟩
   refine q M _ _ hM upd_same (by simp) (fun _ => by simp) (fun y hy => ?_) ((W2.mk1 hp3 s3).put (Ne.symm nM) hM _)
   rcases List.mem_or_eq_of_mem_set hy with h | h
   ·exact .inl h
   ·exact .inr h
end
end FewE

set_option Elab.async false
set_option linter.all false
set_option maxRecDepth 100000
set_option maxHeartbeats 1000000
namespace FewE
open PySem L2 Few
theorem zkk : ((Str.ofString "_law_at" : Str) == ("__debug__" : Str)) = false := by decide +kernel
theorem zkl : ((Str.ofString "_law_at" : Str) == ("__classdict__" : Str)) = false := by decide +kernel
theorem zkm : ((Str.ofString "_law_list_odd" : Str) == ("__debug__" : Str)) = false := by decide +kernel
theorem zkn : ((Str.ofString "_law_odd" : Str) == ("__debug__" : Str)) = false := by decide +kernel
theorem zko : ((Str.ofString "_law_put" : Str) == ("__debug__" : Str)) = false := by decide +kernel
theorem zkp : ((Str.ofString "_law_signs" : Str) == ("__debug__" : Str)) = false := by decide +kernel
theorem zkq : ((Str.ofString "_law_signs" : Str) == ("__classdict__" : Str)) = false := by decide +kernel
theorem zkr : ((Str.ofString "_law_way" : Str) == ("__debug__" : Str)) = false := by decide +kernel
theorem zks : ((Str.ofString "_law_way" : Str) == ("__classdict__" : Str)) = false := by decide +kernel
def SgR (p : Addr) (H : Hp) (x : V) : Prop := ∃ q nm c r ps, x = .ref q ∧ q ≠ p ∧ LT H q (.str nm :: .ref c :: r) ∧ c ≠ p ∧ LT H c ps ∧ ps.length ≤ 2 ∧ r.length ≤ 1 ∧ (∀ y ∈ ps, Th p H 0 12 y) ∧ (∀ y ∈ r, Th p H 0 12 y) ∧ Th p H 0 12 (.str nm)
theorem LT.sx {p : Addr} {H H' : Hp} {a : Addr} {xs : List V} (h : LT H a xs) (n : a ≠ p) (s : SameX p H H') : LT H' a xs := h.mono fun o e => s a o n e
theorem SgR.sx {p : Addr} {H H' : Hp} {x : V} (h : SgR p H x) (s : SameX p H H') : SgR p H' x := by
 obtain ⟨q, nm, c, r, ps, e, n1, l1, n2, l2, h1, h2, h3, h4, h5⟩ := h
 exact ⟨q, nm, c, r, ps, e, n1, LT.sx l1 n1 s, n2, LT.sx l2 n2 s, h1, h2, fun y hy => (h3 y hy).sx s, fun y hy => (h4 y hy).sx s, h5.sx s⟩
theorem SgR.elems {p : Addr} {H : Hp} {q c : Addr} {nm : Str} {r ps : List V} (n2 : c ≠ p) (l2 : LT H c ps) (h1 : ps.length ≤ 2) (h3 : ∀ y ∈ ps, Th p H 0 12 y) (h4 : ∀ y ∈ r, Th p H 0 12 y) (h5 : Th p H 0 12 (.str nm)) : ∀ y ∈ V.str nm :: .ref c :: r, Th p H 3 410 y := fun y hy => by
 rcases List.mem_cons.mp hy with rfl | hy
 ·exact h5.mono (by decide) (by decide)
 ·rcases List.mem_cons.mp hy with rfl | hy
  ·exact ThR.row' n2 l2 h3 h1 (by decide) (by decide)
  ·exact (h4 y hy).mono (by decide) (by decide)
theorem ixN_nat {n : Nat} {i : Int} (h0 : 0 ≤ i) (h : i.toNat < n) : ixN n i = some i.toNat := by unfold ixN; rw [if_pos h0, if_pos (by omega)]
theorem ix0 {x : V} {r : List V} : ixN (x :: r).length 0 = some 0 := ixN_nat (by decide) (by simp)
theorem ix1 {x y : V} {r : List V} : ixN (x :: y :: r).length 1 = some 1 := ixN_nat (by decide) (by simp)
theorem SgR.th {p : Addr} {H : Hp} {x : V} (h : SgR p H x) : Th p H 4 1650 x := by
 obtain ⟨q, nm, c, r, ps, rfl, n1, l1, n2, l2, h1, h2, h3, h4, h5⟩ := h
 exact ThR.row' n1 l1 (SgR.elems (q := q) n2 l2 h1 h3 h4 h5) (m := 3) (by simp; omega) (by decide) (by decide)
section
variable {P : Program} {w : World} {K : PySem.W.Frag} {mg : Str → Option Value} {base : Heap}
abbrev s_law_spoilt_sign : Stmt := top 38
theorem zkt : FnScope ["_law_pot_here", "_law_signs", "_law_kinds", "_law_at", "_law_sign_here", "_law_way", "_law_made"] ["_law_pot_here", "_law_signs", "_law_kinds"] (defScope s_law_spoilt_sign) := ⟨rfl, rfl, rfl, by decide +kernel, rfl, by decide +kernel, by decide +kernel⟩
theorem zku : (defScope s_law_spoilt_sign).names.lookup (Str.ofString "_law_at") = some NameKind.local := by decide +kernel
theorem zkv : (defScope s_law_spoilt_sign).names.lookup (Str.ofString "_law_draw") = some NameKind.globalImplicit := by decide +kernel
theorem zkw : (defScope s_law_spoilt_sign).names.lookup (Str.ofString "_law_kinds") = some NameKind.local := by decide +kernel
theorem zkx : (defScope s_law_spoilt_sign).names.lookup (Str.ofString "_law_list_odd") = some NameKind.globalImplicit := by decide +kernel
theorem zky : (defScope s_law_spoilt_sign).names.lookup (Str.ofString "_law_made") = some NameKind.local := by decide +kernel
theorem zkz : (defScope s_law_spoilt_sign).names.lookup (Str.ofString "_law_odd") = some NameKind.globalImplicit := by decide +kernel
theorem zk0 : (defScope s_law_spoilt_sign).names.lookup (Str.ofString "_law_pot_here") = some NameKind.local := by decide +kernel
theorem zk1 : (defScope s_law_spoilt_sign).names.lookup (Str.ofString "_law_put") = some NameKind.globalImplicit := by decide +kernel
theorem zk2 : (defScope s_law_spoilt_sign).names.lookup (Str.ofString "_law_sign_here") = some NameKind.local := by decide +kernel
theorem zk3 : (defScope s_law_spoilt_sign).names.lookup (Str.ofString "_law_signs") = some NameKind.local := by decide +kernel
theorem zk4 : (defScope s_law_spoilt_sign).names.lookup (Str.ofString "_law_way") = some NameKind.local := by decide +kernel
theorem zk5 : (defScope s_law_spoilt_sign).names.lookup (Str.ofString "len") = some NameKind.globalImplicit := by decide +kernel
theorem zk6 : (defScope s_law_spoilt_sign).names.lookup (Str.ofString "list") = some NameKind.globalImplicit := by decide +kernel
theorem zk7 : (defScope s_law_spoilt_sign).names.lookup (Str.ofString "tuple") = some NameKind.globalImplicit := by decide +kernel
def spSpoiltSign : Sp := fun vs H Q _ => ∃ (p b a : Addr) (xs us : List V), vs = [.ref p, .ref b, .ref a] ∧ PotAt H p ∧ b ≠ p ∧ LT H b xs ∧ xs.length ≤ 8 ∧ (∀ x ∈ xs, SgR p H x) ∧ a ≠ p ∧ LT H a us ∧ 1 ≤ us.length ∧ (∀ u ∈ us, Th p H 0 12 u) ∧
 ∀ l ys H', H l = none → H' l = some (.lst ys) → ys.length ≤ 9 → (∀ y ∈ ys, Th p H' 4 1650 y) → Went p H H' → Q (.ref l) H'
theorem ok_spoilt_sign (F : FunAt K mg "_law_spoilt_sign" s_law_spoilt_sign ["_law_pot_here", "_law_signs", "_law_kinds"]) (Z : Bl mg) (D_law_draw : Def P w K mg base "_law_draw" 1 ["_law_pot_here", "_law_many"] spDraw)
  (D_law_odd : Def P w K mg base "_law_odd" 2 ["_law_pot_here"] spOdd) (D_law_list_odd : Def P w K mg base "_law_list_odd" 2 ["_law_pot_here"] spListOdd) (D_law_put : Def P w K mg base "_law_put" 2 ["_law_pot_here", "_law_rows", "_law_thing"] spPut) :
  Def P w K mg base "_law_spoilt_sign" 3 ["_law_pot_here", "_law_signs", "_law_kinds"] spSpoiltSign := by
 have SC := zkt
 refine F.mk' (k := 2) zkt (fun vs H Q E h => ?_) (fun f cdv A outer s H vs Q E hr h => ?_)
 ·obtain ⟨p, b, a, xs, us, rfl, _⟩ := h
  rfl
 ·obtain ⟨p, b, a, xs, us, rfl, hp, nb, hB, hl, hx, na, hA, hu1, huu, q⟩ := h
  refine' ⟨_, ?derivation, ?_⟩
  case derivation =>
   refine' pss_cons ?ka ?kb
   case ka =>
    refine' ps_if ?kc ?kd pss_nil
    case kc =>
     refine' pt_cmpR ?ke ?kf ?kg ?kh
     case ke => exact op_eq
     case kf =>
      refine' pe_callB (hn := zbw) (hdb := zbv) ?ki ?kj ?kk ?kl ?km ?kn ?ko
      case ki => exact call_len_seq
      case kj => exact zk5
      case kk => exact Z.n_len
      case kl => exact bt_len
      case km =>
       refine' pa_cons ?kp pa_nil ?kq
       case kp => exact (pq 1 (visL zk3) zkp zkq)
       case kq => rfl
      case kn => rfl
      case ko => rfl
     case kg => exact pe_int
     case kh => exact (nomark _)
    case kd =>
     refine' pss_one ?kr
     case kr =>
      refine' ps_ret ?ks
      case ks =>
       refine' pe_lst ?kt
       case kt =>
        refine' pa_cons ?ku pa_nil ?kv
        case ku =>
         refine' pe_def (hdb := zkn) ?kw ?kx ?ky ?kz ?kba ?kbb
         case kw => exact D_law_odd
         case kx => exact (hr.mono (by decide))
         case ky => exact zkz
         case kz =>
          refine' pa_cons ?kbc pa_nil ?kbd
          case kbc => exact (pq 0 (visL zk0) zbn zbo)
          case kbd => rfl
         case kba => rfl
         case kbb => rfl
        case kv => rfl
   case kb =>
    refine' pss_cons ?kbe ?kbf
    case kbe =>
     refine' ps_set (i := 3) (x := Str.ofString "_law_at") ?kbg ?kbh ?kbi ?kbj ?kbk ?kbl
     case kbg => exact SC.nd
     case kbh => exact rfl
     case kbi => exact (Or.inl zku)
     case kbj =>
      refine' pe_def (hdb := zbe) ?kbm ?kbn ?kbo ?kbp ?kbq ?kbr
      case kbm => exact D_law_draw
      case kbn => exact (hr.mono (by decide))
      case kbo => exact zkv
      case kbp =>
       refine' pa_cons ?kbs ?kbt ?kbu
       case kbs => exact (pq 0 (visL zk0) zbn zbo)
       case kbt =>
        refine' pa_cons ?kbv pa_nil ?kbw
        case kbv =>
         refine' pe_callB (hn := zbw) (hdb := zbv) ?kbx ?kby ?kbz ?kca ?kcb ?kcc ?kcd
         case kbx => exact call_len_seq
         case kby => exact zk5
         case kbz => exact Z.n_len
         case kca => exact bt_len
         case kcb =>
          refine' pa_cons ?kce pa_nil ?kcf
          case kce => exact (pq 1 (visL zk3) zkp zkq)
          case kcf => rfl
         case kcc => rfl
         case kcd => rfl
        case kbw => rfl
       case kbu => rfl
      case kbq => rfl
      case kbr => rfl
     case kbk => rfl
     case kbl => exact .inl rfl
    case kbf =>
     refine' pss_cons ?kcg ?kch
     case kcg =>
      refine' ps_set (i := 4) (x := Str.ofString "_law_sign_here") ?kci ?kcj ?kck ?kcl ?kcm ?kcn
      case kci => exact SC.nd
      case kcj => exact rfl
      case kck => exact (Or.inl zk2)
      case kcl =>
       refine' pe_callTy (hn := zby) (hdb := zbx) ?kco ?kcp ?kcq ?kcr ?kcs ?kct ?kcu
       case kco => exact call_list_of
       case kcp => exact zk6
       case kcq => exact Z.n_list
       case kcr => exact bt_list
       case kcs =>
        refine' pa_cons ?kcv pa_nil ?kcw
        case kcv =>
         refine' pe_ix ?kcx ?kcy ?kcz ?kda
         case kcx => exact ix_seq
         case kcy => exact (pq 1 (visL zk3) zkp zkq)
         case kcz => exact (pq 3 (visL zku) zkk zkl)
         case kda =>
          intro _ _
          exact rfl
        case kcw => rfl
       case kct => rfl
       case kcu => rfl
      case kcm => rfl
      case kcn => exact .inl rfl
     case kch =>
      refine' pss_cons ?kdb ?kdc
      case kdb =>
       refine' ps_set (i := 5) (x := Str.ofString "_law_way") ?kdd ?kde ?kdf ?kdg ?kdh ?kdi
       case kdd => exact SC.nd
       case kde => exact rfl
       case kdf => exact (Or.inl zk4)
       case kdg =>
        refine' pe_def (hdb := zbe) ?kdj ?kdk ?kdl ?kdm ?kdn ?kdo
        case kdj => exact D_law_draw
        case kdk => exact (hr.mono (by decide))
        case kdl => exact zkv
        case kdm =>
         refine' pa_cons ?kdp ?kdq ?kdr
         case kdp => exact (pq 0 (visL zk0) zbn zbo)
         case kdq =>
          refine' pa_cons ?kds pa_nil ?kdt
          case kds => exact pe_int
          case kdt => rfl
         case kdr => rfl
        case kdn => rfl
        case kdo => rfl
       case kdh => rfl
       case kdi => exact .inl rfl
      case kdc =>
       refine' pss_cons ?kdu ?kdv
       case kdu =>
        refine' ps_if ?kdw ?kdx ?kdy
        case kdw =>
         refine' pt_cmpR ?kdz ?kea ?keb ?kec
         case kdz => exact op_eq
         case kea => exact (pq 5 (visL zk4) zkr zks)
         case keb => exact pe_int
         case kec => exact (nomark _)
        case kdx =>
         refine' pss_one ?ked
         case ked =>
          refine' ps_asg ?kee ?kef ?keg ?keh ?kei
          case kee =>
           refine' pe_def (hdb := zkn) ?kej ?kek ?kel ?kem ?ken ?keo
           case kej => exact D_law_odd
           case kek => exact (hr.mono (by decide))
           case kel => exact zkz
           case kem =>
            refine' pa_cons ?kep pa_nil ?keq
            case kep => exact (pq 0 (visL zk0) zbn zbo)
            case keq => rfl
           case ken => rfl
           case keo => rfl
          case kef =>
           refine' pg_sub ?ker ?kes ?ket ?keu
           case ker => exact (pq 4 (visL zk2) zht zhu)
           case kes => exact pe_int
           case ket => exact set_list
           case keu => intro _; rfl
          case keg => rfl
          case keh => rfl
          case kei => rfl
        case kdy =>
         refine' pss_one ?kev
         case kev =>
          refine' ps_if ?kew ?kex ?key
          case kew =>
           refine' pt_cmpR ?kez ?kfa ?kfb ?kfc
           case kez => exact op_eq
           case kfa => exact (pq 5 (visL zk4) zkr zks)
           case kfb => exact pe_int
           case kfc => exact (nomark _)
          case kex =>
           refine' pss_one ?kfd
           case kfd =>
            refine' ps_asg ?kfe ?kff ?kfg ?kfh ?kfi
            case kfe =>
             refine' pe_def (hdb := zkm) ?kfj ?kfk ?kfl ?kfm ?kfn ?kfo
             case kfj => exact D_law_list_odd
             case kfk => exact (hr.mono (by decide))
             case kfl => exact zkx
             case kfm =>
              refine' pa_cons ?kfp pa_nil ?kfq
              case kfp => exact (pq 0 (visL zk0) zbn zbo)
              case kfq => rfl
             case kfn => rfl
             case kfo => rfl
            case kff =>
             refine' pg_sub ?kfr ?kfs ?kft ?kfu
             case kfr => exact (pq 4 (visL zk2) zht zhu)
             case kfs => exact pe_int
             case kft => exact set_list
             case kfu => intro _; rfl
            case kfg => rfl
            case kfh => rfl
            case kfi => rfl
          case key =>
           refine' pss_one ?kfv
           case kfv =>
            refine' ps_if ?kfw ?kfx ?kfy
            case kfw =>
             refine' pt_cmpR ?kfz ?kga ?kgb ?kgc
             case kfz => exact op_eq
             case kga => exact (pq 5 (visL zk4) zkr zks)
             case kgb => exact pe_int
             case kgc => exact (nomark _)
            case kfx =>
             refine' pss_one ?kgd
             case kgd =>
              refine' ps_asg ?kge ?kgf ?kgg ?kgh ?kgi
              case kge =>
               refine' pe_def (hdb := zko) ?kgj ?kgk ?kgl ?kgm ?kgn ?kgo
               case kgj => exact D_law_put
               case kgk => exact (hr.mono (by decide))
               case kgl => exact zk1
               case kgm =>
                refine' pa_cons ?kgp ?kgq ?kgr
                case kgp => exact (pq 0 (visL zk0) zbn zbo)
                case kgq =>
                 refine' pa_cons ?kgs ?kgt ?kgu
                 case kgs =>
                  refine' pe_ix ?kgv ?kgw ?kgx ?kgy
                  case kgv => exact ix_list
                  case kgw => exact (pq 4 (visL zk2) zht zhu)
                  case kgx => exact pe_int
                  case kgy =>
                   intro _ _
                   exact rfl
                 case kgt =>
                  refine' pa_cons ?kgz pa_nil ?kha
                  case kgz =>
                   refine' pe_def (hdb := zkn) ?khb ?khc ?khd ?khe ?khf ?khg
                   case khb => exact D_law_odd
                   case khc => exact (hr.mono (by decide))
                   case khd => exact zkz
                   case khe =>
                    refine' pa_cons ?khh pa_nil ?khi
                    case khh => exact (pq 0 (visL zk0) zbn zbo)
                    case khi => rfl
                   case khf => rfl
                   case khg => rfl
                  case kha => rfl
                 case kgu => rfl
                case kgr => rfl
               case kgn => rfl
               case kgo => rfl
              case kgf =>
               refine' pg_sub ?khj ?khk ?khl ?khm
               case khj => exact (pq 4 (visL zk2) zht zhu)
               case khk => exact pe_int
               case khl => exact set_list
               case khm => intro _; rfl
              case kgg => rfl
              case kgh => rfl
              case kgi => rfl
            case kfy =>
             refine' pss_one ?khn
             case khn =>
              refine' ps_if ?kho ?khp ?khq
              case kho =>
               refine' pt_cmpR ?khr ?khs ?kht ?khu
               case khr => exact op_eq
               case khs => exact (pq 5 (visL zk4) zkr zks)
               case kht => exact pe_int
               case khu => exact (nomark _)
              case khp =>
               refine' pss_one ?khv
               case khv =>
                refine' ps_asg ?khw ?khx ?khy ?khz ?kia
                case khw =>
                 refine' pe_op ?kib ?kic ?kid
                 case kib => exact op_cat
                 case kic =>
                  refine' pe_callTy (hn := zby) (hdb := zbx) ?kie ?kif ?kig ?kih ?kii ?kij ?kik
                  case kie => exact call_list_of
                  case kif => exact zk6
                  case kig => exact Z.n_list
                  case kih => exact bt_list
                  case kii =>
                   refine' pa_cons ?kil pa_nil ?kim
                   case kil =>
                    refine' pe_ix ?kin ?kio ?kip ?kiq
                    case kin => exact ix_list
                    case kio => exact (pq 4 (visL zk2) zht zhu)
                    case kip => exact pe_int
                    case kiq =>
                     intro _ _
                     exact rfl
                   case kim => rfl
                  case kij => rfl
                  case kik => rfl
                 case kid =>
                  refine' pe_op ?kir ?kis ?kit
                  case kir => exact op_rep
                  case kis =>
                   refine' pe_lst ?kiu
                   case kiu =>
                    refine' pa_cons ?kiv pa_nil ?kiw
                    case kiv =>
                     refine' pe_ix ?kix ?kiy ?kiz ?kja
                     case kix => exact ix_seq
                     case kiy => exact (pq 2 (visL zkw) zcs zct)
                     case kiz => exact pe_int
                     case kja =>
                      intro _ _
                      exact rfl
                    case kiw => rfl
                  case kit =>
                   refine' pe_op ?kjb ?kjc ?kjd
                   case kjb => exact op_add
                   case kjc => exact pe_int
                   case kjd =>
                    refine' pe_def (hdb := zbe) ?kje ?kjf ?kjg ?kjh ?kji ?kjj
                    case kje => exact D_law_draw
                    case kjf => exact (hr.mono (by decide))
                    case kjg => exact zkv
                    case kjh =>
                     refine' pa_cons ?kjk ?kjl ?kjm
                     case kjk => exact (pq 0 (visL zk0) zbn zbo)
                     case kjl =>
                      refine' pa_cons ?kjn pa_nil ?kjo
                      case kjn => exact pe_int
                      case kjo => rfl
                     case kjm => rfl
                    case kji => rfl
                    case kjj => rfl
                case khx =>
                 refine' pg_sub ?kjp ?kjq ?kjr ?kjs
                 case kjp => exact (pq 4 (visL zk2) zht zhu)
                 case kjq => exact pe_int
                 case kjr => exact set_list
                 case kjs => intro _; rfl
                case khy => rfl
                case khz => rfl
                case kia => rfl
              case khq =>
               refine' pss_one ?kjt
               case kjt =>
                refine' ps_if ?kju ?kjv ?kjw
                case kju =>
                 refine' pt_cmpR ?kjx ?kjy ?kjz ?kka
                 case kjx => exact op_eq
                 case kjy => exact (pq 5 (visL zk4) zkr zks)
                 case kjz => exact pe_int
                 case kka => exact (nomark _)
                case kjv =>
                 refine' pss_one ?kkb
                 case kkb =>
                  refine' ps_expr ?kkc ?kkd
                  case kkc =>
                   refine' pe_bm ?kke ?kkf ?kkg ?kkh ?kki ?kkj ?kkk ?kkl ?kkm ?kkn ?kko
                   case kke => exact PySem.F.plainAttrs_list
                   case kkf => exact PySem.F.slot_list_append
                   case kkg => exact PySem.F.type_list_append
                   case kkh => exact mt_append
                   case kki => exact (pq 4 (visL zk2) zht zhu)
                   case kkj =>
                    refine' pa_cons ?kkp pa_nil ?kkq
                    case kkp =>
                     refine' pe_def (hdb := zkn) ?kkr ?kks ?kkt ?kku ?kkv ?kkw
                     case kkr => exact D_law_odd
                     case kks => exact (hr.mono (by decide))
                     case kkt => exact zkz
                     case kku =>
                      refine' pa_cons ?kkx pa_nil ?kky
                      case kkx => exact (pq 0 (visL zk0) zbn zbo)
                      case kky => rfl
                     case kkv => rfl
                     case kkw => rfl
                    case kkq => rfl
                   case kkk => rfl
                   case kkl => rfl
                   case kkm => rfl
                   case kkn => rfl
                   case kko => rfl
                  case kkd => rfl
                case kjw =>
                 refine' pss_one ?kkz
                 case kkz =>
                  refine' ps_if ?kla ?klb ?klc
                  case kla =>
                   refine' pt_cmpR ?kld ?kle ?klf ?klg
                   case kld => exact op_eq
                   case kle => exact (pq 5 (visL zk4) zkr zks)
                   case klf => exact pe_int
                   case klg => exact (nomark _)
                  case klb =>
                   refine' pss_one ?klh
                   case klh =>
                    refine' ps_expr ?kli ?klj
                    case kli =>
                     refine' pe_bm0 ?klk ?kll ?klm ?kln ?klo ?klp ?klq
                     case klk => exact PySem.F.plainAttrs_list
                     case kll => exact PySem.F.slot_list_pop
                     case klm => exact PySem.F.type_list_pop
                     case kln => exact mt_pop
                     case klo => exact (pq 4 (visL zk2) zht zhu)
                     case klp => rfl
                     case klq => rfl
                    case klj => rfl
                  case klc =>
                   refine' pss_one ?klr
                   case klr =>
                    refine' ps_asg ?kls ?klt ?klu ?klv ?klw
                    case kls =>
                     refine' pe_def (hdb := zkn) ?klx ?kly ?klz ?kma ?kmb ?kmc
                     case klx => exact D_law_odd
                     case kly => exact (hr.mono (by decide))
                     case klz => exact zkz
                     case kma =>
                      refine' pa_cons ?kmd pa_nil ?kme
                      case kmd => exact (pq 0 (visL zk0) zbn zbo)
                      case kme => rfl
                     case kmb => rfl
                     case kmc => rfl
                    case klt =>
                     refine' pg_sub ?kmf ?kmg ?kmh ?kmi
                     case kmf => exact (pq 4 (visL zk2) zht zhu)
                     case kmg =>
                      refine' pe_un ?kmj ?kmk
                      case kmj => exact un_neg
                      case kmk => exact pe_int
                     case kmh => exact set_list
                     case kmi => intro _; rfl
                    case klu => rfl
                    case klv => rfl
                    case klw => rfl
       case kdv =>
        refine' pss_cons ?kml ?kmm
        case kml =>
         refine' ps_set (i := 6) (x := Str.ofString "_law_made") ?kmn ?kmo ?kmp ?kmq ?kmr ?kms
         case kmn => exact SC.nd
         case kmo => exact rfl
         case kmp => exact (Or.inl zky)
         case kmq =>
          refine' pe_callTy (hn := zby) (hdb := zbx) ?kmt ?kmu ?kmv ?kmw ?kmx ?kmy ?kmz
          case kmt => exact call_list_of
          case kmu => exact zk6
          case kmv => exact Z.n_list
          case kmw => exact bt_list
          case kmx =>
           refine' pa_cons ?kna pa_nil ?knb
           case kna => exact (pq 1 (visL zk3) zkp zkq)
           case knb => rfl
          case kmy => rfl
          case kmz => rfl
         case kmr => rfl
         case kms => exact .inl rfl
        case kmm =>
         refine' pss_cons ?knc ?knd
         case knc =>
          refine' ps_asg ?kne ?knf ?kng ?knh ?kni
          case kne =>
           refine' pe_ix ?knj ?knk ?knl ?knm
           case knj => exact ix_list
           case knk =>
            refine' pe_lst ?knn
            case knn =>
             refine' pa_cons ?kno ?knp ?knq
             case kno =>
              refine' pe_callTy (hn := zev) (hdb := zeu) ?knr ?kns ?knt ?knu ?knv ?knw ?knx
              case knr => exact call_tuple_of
              case kns => exact zk7
              case knt => exact Z.n_tuple
              case knu => exact bt_tuple
              case knv =>
               refine' pa_cons ?kny pa_nil ?knz
               case kny => exact (pq 4 (visL zk2) zht zhu)
               case knz => rfl
              case knw => rfl
              case knx => rfl
             case knp =>
              refine' pa_cons ?koa ?kob ?koc
              case koa => exact (pq 4 (visL zk2) zht zhu)
              case kob =>
               refine' pa_cons ?kod pa_nil ?koe
               case kod =>
                refine' pe_def (hdb := zkm) ?kof ?kog ?koh ?koi ?koj ?kok
                case kof => exact D_law_list_odd
                case kog => exact (hr.mono (by decide))
                case koh => exact zkx
                case koi =>
                 refine' pa_cons ?kol pa_nil ?kom
                 case kol => exact (pq 0 (visL zk0) zbn zbo)
                 case kom => rfl
                case koj => rfl
                case kok => rfl
               case koe => rfl
              case koc => rfl
             case knq => rfl
           case knl =>
            refine' pe_def (hdb := zbe) ?kon ?koo ?kop ?koq ?kor ?kos
            case kon => exact D_law_draw
            case koo => exact (hr.mono (by decide))
            case kop => exact zkv
            case koq =>
             refine' pa_cons ?kot ?kou ?kov
             case kot => exact (pq 0 (visL zk0) zbn zbo)
             case kou =>
              refine' pa_cons ?kow pa_nil ?kox
              case kow => exact pe_int
              case kox => rfl
             case kov => rfl
            case kor => rfl
            case kos => rfl
           case knm =>
            intro _ _
            exact rfl
          case knf =>
           refine' pg_sub ?koy ?koz ?kpa ?kpb
           case koy => exact (pq 6 (visL zky) zjy zjz)
           case koz => exact (pq 3 (visL zku) zkk zkl)
           case kpa => exact set_list
           case kpb => intro _; rfl
          case kng => rfl
          case knh => rfl
          case kni => rfl
         case knd =>
          refine' pss_one ?kpc
          case kpc =>
           refine' ps_ret ?kpd
           case kpd => exact (pq 6 (visL zky) zjy zjz)
  have W0 := Went.refl hp
  refine ⟨_, rfl, b, _, rfl, hB.sq, rfl, _, rfl, ?_⟩
  cases hxs : xs with
  | nil =>
   subst hxs
   refine ifT (by simp) ?_
   refine ⟨_, rfl, p, rfl, hp, fun v H1 hv W1 => ?_⟩
   refine ⟨by show 1 ≤ sizeLine; decide, fun l hl' => ?_⟩
   exact q l [v] _ (W1.free hl') upd_same (by simp) (fun y hy => by rw [List.mem_singleton.mp hy]; exact (hv.reg (R' := (· ≠ p)) (fun a ha z => by obtain ⟨o, e⟩ := hp.some; rw [← z, ha] at e; cases e) fun a o _ e => same_new hl' _ a o e).mono (by decide) (by decide)) (W1.new hl' _)
  | cons x0 xr =>
  rw [← hxs]
  have hpos : 0 < xs.length := by rw [hxs]; simp
  refine ifF (by rw [decide_eq_false (fun e => by injection e with e; omega)]; decide) ?_
  refine ⟨_, rfl, _, rfl, b, _, rfl, hB.sq, p, _, rfl, hp, by omega, by omega, fun r1 H1 a0 a1 hp1 s1 => ?_⟩
  have W1 := W0.mk1 hp1 s1
  have hr1 : r1.toNat < xs.length := by omega
  have hsg := (hx _ (List.getElem_mem hr1)).sx s1
  obtain ⟨sq, nm, c, r, ps, hsx, n1, l1, n2, l2, h1, h2, h3, h4, h5⟩ := hsg
  refine ⟨_, rfl, _, rfl, (LT.sx hB nb s1).ix (atI_int a0 (List.getElem?_eq_getElem hr1)) ?_⟩
  rw [hsx]
  refine ⟨sq, _, rfl, l1.sq, fun S hS => ?_⟩
  have W2 := W1.new hS (.lst (.str nm :: .ref c :: r))
  refine ⟨_, rfl, p, _, rfl, W2.pot, by decide, by decide, fun way H3 b0 b1 hp3 s3 => ?_⟩
  have W3 := W2.mk1 hp3 s3
  have hSf : H S = none := W1.free hS
  have nS : S ≠ p := Ne.symm (W1.ne hS)
  have hS3 : H3 S = some (.lst (.str nm :: .ref c :: r)) := s3 _ _ nS upd_same
  have s13 : SameX p H1 H3 := (same_new hS _).x.trans s3
  have el1 := SgR.elems (q := sq) n2 l2 h1 h3 h4 h5
  have fr : ∀ {H4 : Hp}, PotAt H4 p → ∀ a, H4 a = none → a ≠ p := fun h a ha z => by obtain ⟨o, e⟩ := h.some; rw [← z, ha] at e; cases e
  have ps0 : ∀ {H4 : Hp}, SameX p H3 H4 → H4 S = some (.lst (.str nm :: .ref c :: r)) := fun s => s _ _ nS hS3
  dsimp only [gName]
  refine seq_mid (fun σ' H' => ∃ ss, σ' = [some (.ref p), some (.ref b), some (.ref a), some (.int r1), some (.ref S), some (.int way), none] ∧ H' S = some (.lst ss) ∧ ss.length ≤ 4 ∧ (∀ y ∈ ss, Th p H' 3 410 y) ∧ Went p H H') ?_ ?_
  ·rintro σ' H' ⟨ss, rfl, hS', hl', hss, W'⟩
   have nSf : ∀ {H7 : Hp}, SameX p H' H7 → ∀ y ∈ ss, Th p H7 3 410 y := fun s y hy => (hss y hy).sx s
   refine ⟨_, rfl, b, _, rfl, (LT.sx hB nb W'.same).sq, fun M hM => ?_⟩
   have W4 := W'.new hM (.lst xs)
   have nM := Ne.symm (W'.ne hM)
   have hMf := W'.free hM
   have s4 := same_new hM (.lst xs)
   refine ⟨_, rfl, S, ss, rfl, .inl ⟨SqL.of (s4 _ _ hS'), fun T hT => ?_⟩⟩
   have W5 := W4.new hT (.tup ss)
   have nT := Ne.symm (W4.ne hT)
   have s5 := same_new hT (.tup ss)
   have nTM : T ≠ M := Ne.symm (ne_of_none (upd_same (H := H') (a := M) (o := .lst xs)) hT)
   have nSM : S ≠ M := ne_of_none hS' hM
   refine ⟨_, rfl, _, rfl, p, rfl, W5.pot, fun v H7 hv _ W7 => ?_⟩
   have W8 := W5.trans W7
   refine ⟨by show 3 ≤ sizeLine; decide, fun L hL => ?_⟩
   have W9 := W8.new hL (.lst [.ref T, .ref S, v])
   have nL := Ne.symm (W8.ne hL)
   have s9 := same_new hL (.lst [.ref T, .ref S, v])
   refine ⟨_, rfl, p, _, rfl, W9.pot, by decide, by decide, fun r8 HA d0 d1 hpA sA => ?_⟩
   have s7A : SameX p (upd (upd H' M (.lst xs)) T (.tup ss)) HA := (W7.same.trans s9.x).trans sA
   have hMA : HA M = some (.lst xs) := s7A _ _ nM (s5 _ _ upd_same)
   have hTA : HA T = some (.tup ss) := s7A _ _ nT upd_same
   have hSA : HA S = some (.lst ss) := s7A _ _ nS (s5 _ _ (s4 _ _ hS'))
   have sHA : SameX p H' HA := (s4.trans s5).x.trans s7A
   have WA := W9.mk1 hpA sA
   have hr8 : r8.toNat < [V.ref T, .ref S, v].length := by show r8.toNat < 3; omega
   refine ⟨L, _, r8, _, rfl, rfl, SqL.of (sA _ _ nL upd_same), atI_int d0 (List.getElem?_eq_getElem hr8), ?_⟩
   refine ⟨_, rfl, _, rfl, M, _, r1, r1.toNat, rfl, rfl, hMA, ixN_nat a0 hr1, _, rfl, ?_⟩
   refine q M _ _ hMf upd_same (by rw [List.length_set]; omega) (fun y hy => ?_) (WA.put (Ne.symm nM) hMf _)
   have kM : ∀ (o : HO) {d : Addr} {u : HO}, d ≠ p → H' d = some u → (upd HA M o) d = some u := fun o {d u} nd e => by rw [upd_ne (ne_of_none e hM)]; exact sHA _ _ nd e
   rcases List.mem_or_eq_of_mem_set hy with h | h
   ·exact ((hx y h).sx fun d o nd e => by rw [upd_ne (ne_of_none e hMf)]; exact WA.same d o nd e).th
   ·have hS2 : ∀ y ∈ ss, Th p (upd HA M (.lst (xs.set r1.toNat ([V.ref T, .ref S, v][r8.toNat])))) 3 410 y := fun y hy => (hss y hy).sx fun d o nd e => kM _ nd e
    have hmem := List.getElem_mem hr8
    rw [← h] at hmem
    simp only [List.mem_cons, List.not_mem_nil, or_false] at hmem
    rcases hmem with e | e | e
    ·rw [e]; exact ThR.row' nT (.inr (by rw [upd_ne nTM]; exact hTA)) hS2 hl' (by decide) (by decide)
    ·rw [e]; exact ThR.row' nS (.inl (by rw [upd_ne nSM]; exact hSA)) hS2 hl' (by decide) (by decide)
    ·rw [e]
     refine (hv.reg (R' := (· ≠ p)) (fr W5.pot) fun d o hd e => ?_).mono (by decide) (by decide)
     have nd : d ≠ M := fun z => by rw [z, s5 _ _ upd_same] at hd; cases hd
     rw [upd_ne nd]
     exact sA _ _ (fr W5.pot d hd) (s9 _ _ e)
  ·intro hu
   have fin : ∀ (ss : List V) (H' : Hp), H' S = some (.lst ss) → ss.length ≤ 4 → (∀ y ∈ ss, Th p H' 3 410 y) → Went p H H' → _ := fun ss H' e1 e2 e3 e4 => hu _ H' ⟨ss, rfl, e1, e2, e3, e4⟩
   have put : ∀ (H4 : Hp) (i : Nat) (v : V), SameX p H3 H4 → PotAt H4 p → (∀ o, Th p (upd H4 S o) 3 410 v) → (∀ y ∈ (V.str nm :: .ref c :: r).set i v, Th p (upd H4 S (.lst ((V.str nm :: .ref c :: r).set i v))) 3 410 y) := fun H4 i v s4 p4 hv y hy => by
    rcases List.mem_or_eq_of_mem_set hy with h | h
    ·exact (el1 y h).sx fun d o nd e => by rw [upd_ne (ne_of_none e hS)]; exact (s13.trans s4) d o nd e
    ·rw [h]; exact hv _
   have thv : ∀ {H4 : Hp} {v : V} {W : Nat}, ThR (fun a => H3 a = none) H4 2 W v → W ≤ 410 → ∀ o, Th p (upd H4 S o) 3 410 v := fun hv hw o => (hv.reg (R' := (· ≠ p)) (fr hp3) fun d o' hd e => by rw [upd_ne (fun z => by rw [z, hS3] at hd; cases hd)]; exact e).mono (by decide) hw
   have len3 : ∀ (i : Nat) (v : V), ((V.str nm :: .ref c :: r).set i v).length ≤ 4 := fun i v => by rw [List.length_set]; simp; omega
   refine ⟨_, rfl, rfl, _, rfl, ite2 (fun _ => ?_) (fun _ => ?_)⟩
   ·refine ⟨_, rfl, p, rfl, hp3, fun v H4 hv W4 => ?_⟩
    refine ⟨_, rfl, S, _, 0, 0, rfl, rfl, ps0 W4.same, ix0, ?_⟩
    exact fin _ _ upd_same (len3 0 v) (put H4 0 v W4.same W4.pot (thv hv (by decide))) ((W3.trans W4).put (Ne.symm nS) hSf _)
   refine ⟨_, rfl, rfl, _, rfl, ite2 (fun _ => ?_) (fun _ => ?_)⟩
   ·refine ⟨_, rfl, p, rfl, hp3, fun v H4 hv _ W4 => ?_⟩
    refine ⟨_, rfl, S, _, 1, 1, rfl, rfl, ps0 W4.same, ix1, ?_⟩
    exact fin _ _ upd_same (len3 1 v) (put H4 1 v W4.same W4.pot (thv hv (by decide))) ((W3.trans W4).put (Ne.symm nS) hSf _)
   refine ⟨_, rfl, rfl, _, rfl, ite2 (fun _ => ?_) (fun _ => ?_)⟩
   ·refine ⟨_, rfl, _, rfl, ⟨S, _, 1, .ref c, rfl, rfl, SqL.of hS3, at1, ?_⟩⟩
    refine ⟨_, rfl, p, rfl, hp3, fun v H4 hv W4 => ?_⟩
    refine ⟨p, c, ps, v, rfl, W4.pot, LT.sx l2 n2 (s13.trans W4.same), by omega, fun l ys H5 hl5 e5 le5 _ hy5 W5 => ?_⟩
    have W45 := W4.trans W5
    have nlS : l ≠ S := fun z => by rw [z, ps0 W4.same] at hl5; cases hl5
    refine ⟨_, rfl, S, _, 1, 1, rfl, rfl, ps0 W45.same, ix1, ?_⟩
    refine fin _ _ upd_same (len3 1 _) (put H5 1 _ W45.same W45.pot fun o => ?_) ((W3.trans W45).put (Ne.symm nS) hSf _)
    refine ThR.row' (fr W4.pot l hl5) (.inl (by rw [upd_ne nlS]; exact e5)) (n := 2) (W := 80) (m := 3) (fun y hy => ?_) (by omega) (by decide) (by decide)
    rcases hy5 y hy with h | h
    ·exact ((h3 y h).sx fun d o nd e => by rw [upd_ne (ne_of_none e hS)]; exact (s13.trans W45.same) d o nd e).mono (by decide) (by decide)
    ·rw [h]
     exact (hv.reg (R' := (· ≠ p)) (fr hp3) fun d o' hd e => by rw [upd_ne (fun z => by rw [z, hS3] at hd; cases hd)]; exact W5.same _ _ (fr hp3 d hd) e).mono (by decide) (by decide)
   refine ⟨_, rfl, rfl, _, rfl, ite2 (fun _ => ?_) (fun _ => ?_)⟩
   ·refine ⟨_, rfl, S, _, 1, .ref c, rfl, rfl, SqL.of hS3, at1, c, _, rfl, (LT.sx l2 n2 s13).sq, fun L1 hL1 => ?_⟩
    have V1 := (Went.refl hp3).new hL1 (.lst ps)
    obtain ⟨u0, ur, hus⟩ : ∃ u0 ur, us = u0 :: ur := by
     match us, hu1 with
     | u0 :: ur, _ => exact ⟨u0, ur, rfl⟩
    have hA3 : LT (upd H3 L1 (.lst ps)) a (u0 :: ur) := by rw [← hus]; exact LT.sx hA na (W3.same.trans V1.same)
    refine ⟨_, rfl, hA3.ix at0 ⟨by show 1 ≤ sizeLine; decide, fun L2 hL2 => ?_⟩⟩
    have V2 := V1.new hL2 (.lst [u0])
    have nL1 := fr hp3 L1 hL1
    have nL2 := fr V1.pot L2 hL2
    refine ⟨_, rfl, p, _, rfl, V2.pot, by decide, by decide, fun r5 H5 f0 f1 hp5 s5 => ?_⟩
    have V3 := V2.mk1 hp5 s5
    have g1 : H5 L1 = some (.lst ps) := s5 _ _ nL1 (same_new hL2 _ _ _ upd_same)
    have g2 : H5 L2 = some (.lst [u0]) := s5 _ _ nL2 upd_same
    refine ⟨_, _, rfl, rfl, L2, 1 + r5, [u0], rfl, rfl, g2, by omega, by omega, Nat.le_trans (show [u0].length * (1 + r5).toNat ≤ 3 by simp; omega) (by decide), fun L3 hL3 => ?_⟩
    have V4 := V3.new hL3 (.lst (List.replicate (1 + r5).toNat [u0]).flatten)
    have lr : ((List.replicate (1 + r5).toNat [u0]).flatten).length ≤ 3 := by rw [len_rep]; simp; omega
    refine ⟨L1, L3, ps, _, rfl, rfl, same_new hL3 _ _ _ g1, upd_same, Nat.le_trans (show ps.length + ((List.replicate (1 + r5).toNat [u0]).flatten).length ≤ 5 by omega) (by decide), fun L4 hL4 => ?_⟩
    have V5 := V4.new hL4 (.lst (ps ++ (List.replicate (1 + r5).toNat [u0]).flatten))
    have nL4 := fr V4.pot L4 hL4
    have nL4S : L4 ≠ S := fun z => by rw [z, ps0 V4.same] at hL4; cases hL4
    refine ⟨_, rfl, S, _, 1, 1, rfl, rfl, ps0 V5.same, ix1, ?_⟩
    refine fin _ _ upd_same (len3 1 _) (put _ 1 _ V5.same V5.pot fun o => ?_) ((W3.trans V5).put (Ne.symm nS) hSf _)
    refine ThR.row' nL4 (.inl (by rw [upd_ne nL4S]; exact upd_same)) (n := 0) (W := 12) (m := 5) (fun y hy => ?_) (by rw [List.length_append]; omega) (by decide) (by decide)
    rcases List.mem_append.mp hy with h | h
    ·exact (h3 y h).sx fun d o nd e => by rw [upd_ne (ne_of_none e hS)]; exact (s13.trans V5.same) d o nd e
    ·obtain ⟨zz, hz1, hz2⟩ := List.mem_flatten.mp h
     rw [(List.mem_replicate.mp hz1).2] at hz2
     rw [List.mem_singleton.mp hz2]
     exact (huu u0 (by rw [hus]; simp)).sx fun d o nd e => by rw [upd_ne (ne_of_none e hSf)]; exact (W3.same.trans V5.same) d o nd e
   refine ⟨_, rfl, rfl, _, rfl, ite2 (fun _ => ?_) (fun _ => ?_)⟩
   ·refine ⟨_, rfl, .inl ⟨rfl, _, SqL.of hS3⟩, _, rfl, p, rfl, hp3, fun v H4 hv W4 => ?_⟩
    refine ⟨S, _, _, rfl, rfl, ps0 W4.same, Nat.lt_of_le_of_lt (show (V.str nm :: V.ref c :: r).length ≤ 3 by simp; omega) (by decide), ?_⟩
    refine fin _ _ upd_same (by simp; omega) (fun y hy => ?_) ((W3.trans W4).put (Ne.symm nS) hSf _)
    rcases List.mem_append.mp hy with h | h
    ·exact (el1 y h).sx fun d o nd e => by rw [upd_ne (ne_of_none e hS)]; exact (s13.trans W4.same) d o nd e
    ·rw [List.mem_singleton.mp h]; exact thv hv (by decide) _
   refine ⟨_, rfl, rfl, _, rfl, ite2 (fun _ => ?_) (fun _ => ?_)⟩
   ·refine ⟨_, rfl, .inl ⟨rfl, _, SqL.of hS3⟩, ?_⟩
    refine ⟨S, _, _, rfl, rfl, hS3, List.getElem?_eq_getElem (by simp), ?_⟩
    refine fin _ _ upd_same (by simp; omega) (fun y hy => ?_) (W3.put (Ne.symm nS) hSf _)
    exact (el1 y ((List.dropLast_sublist _).subset hy)).sx fun d o nd e => by rw [upd_ne (ne_of_none e hS)]; exact s13 d o nd e
   ·refine ⟨_, rfl, p, rfl, hp3, fun v H4 hv W4 => ?_⟩
    refine ⟨_, rfl, 1, rfl, S, _, -1, (V.str nm :: V.ref c :: r).length - 1, rfl, rfl, ps0 W4.same, by unfold ixN; simp; omega, ?_⟩
    exact fin _ _ upd_same (len3 _ v) (put H4 _ v W4.same W4.pot (thv hv (by decide))) ((W3.trans W4).put (Ne.symm nS) hSf _)
end
end FewE

set_option Elab.async false
set_option linter.all false
set_option maxRecDepth 100000
set_option maxHeartbeats 1000000
namespace FewE
open PySem L2 Few
theorem zk8 : ((Str.ofString "_law_book_here" : Str) == ("__debug__" : Str)) = false := by decide +kernel
theorem zk9 : ((Str.ofString "_law_book_here" : Str) == ("__classdict__" : Str)) = false := by decide +kernel
theorem zla : ((Str.ofString "_law_more" : Str) == ("__debug__" : Str)) = false := by decide +kernel
theorem zlb : ((Str.ofString "_law_more" : Str) == ("__classdict__" : Str)) = false := by decide +kernel
theorem zlc : ((Str.ofString "_law_spoilt_sign" : Str) == ("__debug__" : Str)) = false := by decide +kernel
structure BkAt (p : Addr) (H : Hp) (B : Addr) (v1 v2 v3 : V) : Prop where
 tup : H B = some (.tup [v1, v2, v3])
 nb : B ≠ p
 t1 : Th p H 3 650 v1
 t2 : Th p H 5 27000 v2
 t3 : Th p H 5 27000 v3
 nt : NoTup H v1
theorem BkAt.sx {p : Addr} {H H' : Hp} {B : Addr} {v1 v2 v3 : V} (h : BkAt p H B v1 v2 v3) (s : SameX p H H') : BkAt p H' B v1 v2 v3 := ⟨s _ _ h.nb h.tup, h.nb, h.t1.sx s, h.t2.sx s, h.t3.sx s, h.t1.noTup h.nt fun a o n e => s a o n e⟩
structure RowOf (p : Addr) (H : Hp) (v : V) (b : Addr) (xs : List V) : Prop where
 ref : v = .ref b
 nb : b ≠ p
 lt : LT H b xs
 len : xs.length ≤ 8
 sg : ∀ x ∈ xs, SgR p H x
theorem sgr_of {p : Addr} {H : Hp} {n W : Nat} {ks : List Str} {x y : V} {r : List V} {nm : Str} {ps : List Str} (t : Th p H n W x) (e : rowOf H x = some (.str nm :: y :: r)) (hn : isN nm) (hp : PlcV H ks y ps) (hr : r.length ≤ 1) (hk : ∀ z ∈ r, ∃ k, KindV ks z k) : SgR p H x := by
 obtain ⟨q, rfl, lq⟩ := rowOf.lt e
 obtain ⟨c, rfl, lc⟩ := rowOf.lt hp.1
 obtain ⟨n1, el⟩ := t.elem lq
 obtain ⟨n2, el2⟩ := (el (.ref c) (by simp)).elem lc
 refine ⟨q, nm, c, r, _, rfl, n1, lq, n2, lc, by rw [List.length_map]; exact hp.2.1, hr, fun z hz => ?_, fun z hz => ?_, Th.name (el (.str nm) (by simp)) hn⟩
 ·obtain ⟨k, hk', rfl⟩ := List.mem_map.mp hz
  exact Th.name (el2 _ hz) (hp.2.2 k hk').1
 ·obtain ⟨k, rfl, h1, _⟩ := hk z hz
  exact Th.name (el (.str k) (by simp [hz])) h1
theorem tie_sgr {p : Addr} {H : Hp} {n W : Nat} {ks : List Str} {x : V} {nm : Str} (t : Th p H n W x) (h : TieN H ks x nm) : SgR p H x := by
 obtain ⟨ps, u, y, e, g, hp⟩ := h
 obtain ⟨rfl, hn, _⟩ := g
 exact sgr_of t e hn hp (by simp) (fun _ z => nomatch z)
theorem fun_sgr {p : Addr} {H : Hp} {n W : Nat} {ks : List Str} {x : V} {nm : Str} (t : Th p H n W x) (h : FunN H ks x nm) : SgR p H x := by
 obtain ⟨ps, kd, u, y, z, e, g, hp, hk⟩ := h
 obtain ⟨rfl, hn, _⟩ := g
 exact sgr_of t e hn hp (by simp) (fun w hw => by rw [List.mem_singleton.mp hw]; exact ⟨kd, hk⟩)
structure Parts (p : Addr) (H : Hp) (v1 v2 v3 : V) (a : Addr) (us : List V) (b : Addr) (xs : List V) (c : Addr) (zs : List V) : Prop where
 v1 : v1 = .ref a
 na : a ≠ p
 la : H a = some (.lst us)
 l1 : 1 ≤ us.length
 l4 : us.length ≤ 4
 us : ∀ u ∈ us, Th p H 0 12 u
 r2 : RowOf p H v2 b xs
 r3 : RowOf p H v3 c zs
theorem BkAt.parts {p : Addr} {H : Hp} {B : Addr} {v1 v2 v3 : V} (h : BkAt p H B v1 v2 v3) (bk : BookV H v1 v2 v3) : ∃ a us b xs c zs, Parts p H v1 v2 v3 a us b xs c zs := by
 obtain ⟨ks, xs, zs, ns, ms, bb⟩ := bk
 obtain ⟨a, rfl, la⟩ := rowOf.lt bb.kinds.1
 obtain ⟨b, rfl, lb⟩ := rowOf.lt bb.r2
 obtain ⟨c, rfl, lc⟩ := rowOf.lt bb.r3
 obtain ⟨na, ea⟩ := h.t1.elem la
 obtain ⟨nb, eb⟩ := h.t2.elem lb
 obtain ⟨nc, ec⟩ := h.t3.elem lc
 have hl := bb.len
 refine ⟨a, ks.map V.str, b, xs, c, zs, rfl, na, ?_, by rw [List.length_map]; exact bb.kinds.2.k1, by rw [List.length_map]; exact bb.kinds.2.k4, fun u hu => ?_, ⟨rfl, nb, lb, by omega, fun x hx => ?_⟩, ⟨rfl, nc, lc, by omega, fun x hx => ?_⟩⟩
 ·rcases la with e | e
  ·exact e
  ·exact absurd ⟨by rw [List.length_map]; exact bb.kinds.2.k1, by rw [List.length_map]; exact bb.kinds.2.k4⟩ (h.nt a _ rfl e)
 ·obtain ⟨k, hk, rfl⟩ := List.mem_map.mp hu
  exact Th.name (ea _ hu) (bb.kinds.2.kn2 k hk)
 ·obtain ⟨n, hn⟩ := bb.ties.mem x hx
  exact tie_sgr (eb x hx) hn
 ·obtain ⟨n, hn⟩ := bb.funs.mem x hx
  exact fun_sgr (ec x hx) hn
theorem cutV_mem {xs : List V} {lo hi : Option Int} {x : V} (h : x ∈ cutV xs lo hi) : x ∈ xs := by
 unfold cutV at h
 exact List.mem_of_mem_drop (List.mem_of_mem_take h)
theorem LT.cutOne {K : PySem.W.Frag} {H : Hp} {b : Addr} {xs : List V} {i : Nat} {σ : St} {R : It → Hp → Prop} (h : LT H b xs) (hv : σ[i]? = Option.some (Option.some (.ref b))) (k : ∀ u H3 J, Over H3 u (xs.take 1) J → Same H H3 → R J H3) :
  iSeq K (tSl (rSlS K) (tVar i) tNoPart (tPart (tC (V.int 1)))) σ H R := by
 have e1 : cutV xs none (some 1) = xs.take 1 := cutTo (i := 1)
 rcases h with h | h
 ·refine .inl ⟨_, hv, 1, rfl, .inl ⟨b, _, rfl, SqL.of h, fun u hu => ?_⟩⟩
  have eu : (upd H u (.lst (cutV xs none (some 1)))) u = some (.lst (xs.take 1)) := by rw [e1]; exact upd_same
  exact ⟨u, rfl, ⟨_, SqL.of eu⟩, k u _ _ ⟨fun i H' kp hi => go_list (SqL.of (kp _ eu)) hi, fun H' kp => stop_list (SqL.of (kp _ eu))⟩ (same_new hu _)⟩
 ·refine .inr ⟨_, hv, 1, rfl, ?_⟩
  by_cases hw : HT.sIx xs.length 0 none = 0 ∧ HT.sIx xs.length xs.length (some 1) = xs.length
  ·refine .inr (.inr ⟨b, _, rfl, SqT.of h, hw, b, rfl, ⟨_, SqT.of h⟩, k b H _ ?_ (Same.refl _)⟩)
   have hl : xs.length ≤ 1 := by
    have := hw.2
    rw [show (some (1 : Int)) = some ((1 : Nat) : Int) from rfl, HT.sIx_nat] at this
    omega
   rw [List.take_of_length_le hl]
   exact ⟨fun i H' kp hi => go_tup (SqT.of (kp _ h)) hi, fun H' kp => stop_tup (SqT.of (kp _ h))⟩
  ·refine .inr (.inl ⟨b, _, rfl, SqT.of h, hw, fun u hu => ?_⟩)
   have eu : (upd H u (.tup (cutV xs none (some 1)))) u = some (.tup (xs.take 1)) := by rw [e1]; exact upd_same
   exact ⟨u, rfl, ⟨_, SqT.of eu⟩, k u _ _ ⟨fun i H' kp hi => go_tup (SqT.of (kp _ eu)) hi, fun H' kp => stop_tup (SqT.of (kp _ eu))⟩ (same_new hu _)⟩
theorem ah_at : ∀ i, i < 8 → (Str.ofString "abcdefgh").cps.toList[i]? = some (97 + i) := by decide +kernel
theorem ah_small : ∀ i, i < 8 → smallS (Str.ofString "m" ++ ⟨#[97 + i]⟩) = true := by decide +kernel
theorem ah_len : ∀ i, i < 8 → (Str.ofString "m").length + (⟨#[97 + i]⟩ : Str).length = 2 := by decide +kernel
theorem edh {R : Addr → Prop} {H : Hp} {z : Str} (h : z ∈ (["e", "d", "h"] : List Str)) : ThR R H 0 13 (.str z) := ThR.small (by
 have : ∀ z ∈ (["e", "d", "h"] : List Str), smallS z = true := by decide +kernel
 exact this z h)
section
variable {P : Program} {w : World} {K : PySem.W.Frag} {mg : Str → Option Value} {base : Heap}
abbrev s_law_spoilt : Stmt := top 39
theorem zld : FnScope ["_law_pot_here", "_law_book_here", "_law_kinds", "_law_ties", "_law_functions", "_law_way", "_law_more"] ["_law_pot_here", "_law_book_here"] (defScope s_law_spoilt) := ⟨rfl, rfl, rfl, by decide +kernel, rfl, by decide +kernel, by decide +kernel⟩
theorem zle : (defScope s_law_spoilt).names.lookup (Str.ofString "_law_book_here") = some NameKind.local := by decide +kernel
theorem zlf : (defScope s_law_spoilt).names.lookup (Str.ofString "_law_draw") = some NameKind.globalImplicit := by decide +kernel
theorem zlg : (defScope s_law_spoilt).names.lookup (Str.ofString "_law_functions") = some NameKind.local := by decide +kernel
theorem zlh : (defScope s_law_spoilt).names.lookup (Str.ofString "_law_kinds") = some NameKind.cell := by decide +kernel
theorem zli : (defScope s_law_spoilt).names.lookup (Str.ofString "_law_list_odd") = some NameKind.globalImplicit := by decide +kernel
theorem zlj : (defScope s_law_spoilt).names.lookup (Str.ofString "_law_more") = some NameKind.local := by decide +kernel
theorem zlk : (defScope s_law_spoilt).names.lookup (Str.ofString "_law_odd") = some NameKind.globalImplicit := by decide +kernel
theorem zll : (defScope s_law_spoilt).names.lookup (Str.ofString "_law_pot_here") = some NameKind.local := by decide +kernel
theorem zlm : (defScope s_law_spoilt).names.lookup (Str.ofString "_law_put") = some NameKind.globalImplicit := by decide +kernel
theorem zln : (defScope s_law_spoilt).names.lookup (Str.ofString "_law_spoilt_sign") = some NameKind.globalImplicit := by decide +kernel
theorem zlo : (defScope s_law_spoilt).names.lookup (Str.ofString "_law_ties") = some NameKind.local := by decide +kernel
theorem zlp : (defScope s_law_spoilt).names.lookup (Str.ofString "_law_way") = some NameKind.local := by decide +kernel
theorem zlq : (defScope s_law_spoilt).names.lookup (Str.ofString "len") = some NameKind.globalImplicit := by decide +kernel
theorem zlr : (defScope s_law_spoilt).names.lookup (Str.ofString "list") = some NameKind.globalImplicit := by decide +kernel
theorem zls : (defScope s_law_spoilt).names.lookup (Str.ofString "range") = some NameKind.globalImplicit := by decide +kernel
theorem zlt : CompSc 1 ["_law_k", "_law_pot_here", "_law_book_here", "_law_kinds", "_law_ties", "_law_functions", "_law_way", "_law_more"] ["_law_pot_here", "_law_book_here", "_law_kinds", "_law_ties", "_law_functions", "_law_way", "_law_more"] (defScope s_law_spoilt) { kind := PySem.ScopeKind.function, names := [(PySem.Str.ofString ".0", PySem.NameKind.local), (PySem.Str.ofString "_law_k", PySem.NameKind.local)], isGenerator := false, isCoroutine := false, more := [] : PySem.Scope } := ⟨rfl, by decide +kernel, by decide +kernel, by decide +kernel, by decide +kernel, rfl, by decide +kernel⟩
theorem zlu : ({ kind := PySem.ScopeKind.function, names := [(PySem.Str.ofString ".0", PySem.NameKind.local), (PySem.Str.ofString "_law_k", PySem.NameKind.local)], isGenerator := false, isCoroutine := false, more := [] : PySem.Scope } : Scope).names.lookup (Str.ofString "_law_k") = some NameKind.local := by decide +kernel
theorem zlv : CompSc 1 ["_law_tie", "_law_pot_here", "_law_book_here", "_law_kinds", "_law_ties", "_law_functions", "_law_way", "_law_more"] ["_law_pot_here", "_law_book_here", "_law_kinds", "_law_ties", "_law_functions", "_law_way", "_law_more"] (defScope s_law_spoilt) { kind := PySem.ScopeKind.function, names := [ (PySem.Str.ofString ".0", PySem.NameKind.local), (PySem.Str.ofString "_law_tie", PySem.NameKind.local), (PySem.Str.ofString "_law_kinds", PySem.NameKind.free)], isGenerator := false, isCoroutine := false, more := [] : PySem.Scope } := ⟨rfl, by decide +kernel, by decide +kernel, by decide +kernel, by decide +kernel, rfl, by decide +kernel⟩
theorem zlw : ({ kind := PySem.ScopeKind.function, names := [ (PySem.Str.ofString ".0", PySem.NameKind.local), (PySem.Str.ofString "_law_tie", PySem.NameKind.local), (PySem.Str.ofString "_law_kinds", PySem.NameKind.free)], isGenerator := false, isCoroutine := false, more := [] : PySem.Scope } : Scope).names.lookup (Str.ofString "_law_kinds") = some NameKind.free := by decide +kernel
theorem zlx : ({ kind := PySem.ScopeKind.function, names := [ (PySem.Str.ofString ".0", PySem.NameKind.local), (PySem.Str.ofString "_law_tie", PySem.NameKind.local), (PySem.Str.ofString "_law_kinds", PySem.NameKind.free)], isGenerator := false, isCoroutine := false, more := [] : PySem.Scope } : Scope).names.lookup (Str.ofString "_law_tie") = some NameKind.local := by decide +kernel
def spSpoilt : Sp := fun vs H Q _ => ∃ (p B : Addr) (v1 v2 v3 : V), vs = [.ref p, .ref B] ∧ PotAt H p ∧ BkAt p H B v1 v2 v3 ∧ BookV H v1 v2 v3 ∧ ∀ B' v1' v2' v3' H', BkAt p H' B' v1' v2' v3' → Went p H H' → Q (.ref B') H'
theorem ok_spoilt (F : FunAt K mg "_law_spoilt" s_law_spoilt ["_law_pot_here", "_law_book_here"]) (Z : Bl mg) (D_law_draw : Def P w K mg base "_law_draw" 1 ["_law_pot_here", "_law_many"] spDraw)
  (D_law_odd : Def P w K mg base "_law_odd" 2 ["_law_pot_here"] spOdd) (D_law_list_odd : Def P w K mg base "_law_list_odd" 2 ["_law_pot_here"] spListOdd) (D_law_put : Def P w K mg base "_law_put" 2 ["_law_pot_here", "_law_rows", "_law_thing"] spPut)
  (D_law_spoilt_sign : Def P w K mg base "_law_spoilt_sign" 3 ["_law_pot_here", "_law_signs", "_law_kinds"] spSpoiltSign) :
  Def P w K mg base "_law_spoilt" 4 ["_law_pot_here", "_law_book_here"] spSpoilt := by
 have SC := zld
 refine F.mk' (k := 3) zld (fun vs H Q E h => ?_) (fun f cdv A outer s H vs Q E hr h => ?_)
 ·obtain ⟨p, B, v1, v2, v3, rfl, _⟩ := h
  rfl
 ·obtain ⟨p, B, v1, v2, v3, rfl, hp, hb, bk, q⟩ := h
  obtain ⟨a, us, b, xs, c, zs, pt⟩ := hb.parts bk
  obtain ⟨rfl, na, la, l1, l4, hus, ⟨rfl, nb, lb, lb8, sb⟩, ⟨rfl, nc, lc, lc8, sc⟩⟩ := pt
  refine' ⟨_, ?derivation, ?_⟩
  case derivation =>
   refine' pss_cons ?ka ?kb
   case ka =>
    refine' ps_asg ?kc ?kd ?ke ?kf ?kg
    case kc => exact (pq 1 (visL zle) zk8 zk9)
    case kd =>
     refine' pg_tup ?kh ?ki ?kj ?kk
     case kh => exact rfl
     case ki =>
      refine' pgs_cons ?kl ?km ?kn
      case kl =>
       refine' pg_name (i := 2) (x := Str.ofString "_law_kinds") ?ko ?kp ?kq ?kr
       case ko => exact SC.nd
       case kp => exact rfl
       case kq => exact (Or.inr zlh)
       case kr => exact (.inl rfl)
      case km =>
       refine' pgs_cons ?ks ?kt ?ku
       case ks =>
        refine' pg_name (i := 3) (x := Str.ofString "_law_ties") ?kv ?kw ?kx ?ky
        case kv => exact SC.nd
        case kw => exact rfl
        case kx => exact (Or.inl zlo)
        case ky => exact (.inl rfl)
       case kt =>
        refine' pgs_cons ?kz pgs_nil ?kba
        case kz =>
         refine' pg_name (i := 4) (x := Str.ofString "_law_functions") ?kbb ?kbc ?kbd ?kbe
         case kbb => exact SC.nd
         case kbc => exact rfl
         case kbd => exact (Or.inl zlg)
         case kbe => exact (.inl rfl)
        case kba => rfl
       case ku => rfl
      case kn => rfl
     case kj => rfl
     case kk => rfl
    case ke => rfl
    case kf => rfl
    case kg => rfl
   case kb =>
    refine' pss_cons ?kbf ?kbg
    case kbf =>
     refine' ps_set (i := 5) (x := Str.ofString "_law_way") ?kbh ?kbi ?kbj ?kbk ?kbl ?kbm
     case kbh => exact SC.nd
     case kbi => exact rfl
     case kbj => exact (Or.inl zlp)
     case kbk =>
      refine' pe_def (hdb := zbe) ?kbn ?kbo ?kbp ?kbq ?kbr ?kbs
      case kbn => exact D_law_draw
      case kbo => exact (hr.mono (by decide))
      case kbp => exact zlf
      case kbq =>
       refine' pa_cons ?kbt ?kbu ?kbv
       case kbt => exact (pq 0 (visL zll) zbn zbo)
       case kbu =>
        refine' pa_cons ?kbw pa_nil ?kbx
        case kbw => exact pe_int
        case kbx => rfl
       case kbv => rfl
      case kbr => rfl
      case kbs => rfl
     case kbl => rfl
     case kbm => exact .inl rfl
    case kbg =>
     refine' pss_cons ?kby ?kbz
     case kby =>
      refine' ps_if ?kca ?kcb pss_nil
      case kca =>
       refine' pt_cmpR ?kcc ?kcd ?kce ?kcf
       case kcc => exact op_eq
       case kcd => exact (pq 5 (visL zlp) zkr zks)
       case kce => exact pe_int
       case kcf => exact (nomark _)
      case kcb =>
       refine' pss_one ?kcg
       case kcg =>
        refine' ps_ret ?kch
        case kch =>
         refine' pe_tup ?kci
         case kci =>
          refine' pa_cons ?kcj ?kck ?kcl
          case kcj =>
           refine' pe_def (hdb := zko) ?kcm ?kcn ?kco ?kcp ?kcq ?kcr
           case kcm => exact D_law_put
           case kcn => exact (hr.mono (by decide))
           case kco => exact zlm
           case kcp =>
            refine' pa_cons ?kcs ?kct ?kcu
            case kcs => exact (pq 0 (visL zll) zbn zbo)
            case kct =>
             refine' pa_cons ?kcv ?kcw ?kcx
             case kcv => exact (pq 2 (visC zlh) zcs zct)
             case kcw =>
              refine' pa_cons ?kcy pa_nil ?kcz
              case kcy =>
               refine' pe_def (hdb := zkn) ?kda ?kdb ?kdc ?kdd ?kde ?kdf
               case kda => exact D_law_odd
               case kdb => exact (hr.mono (by decide))
               case kdc => exact zlk
               case kdd =>
                refine' pa_cons ?kdg pa_nil ?kdh
                case kdg => exact (pq 0 (visL zll) zbn zbo)
                case kdh => rfl
               case kde => rfl
               case kdf => rfl
              case kcz => rfl
             case kcx => rfl
            case kcu => rfl
           case kcq => rfl
           case kcr => rfl
          case kck =>
           refine' pa_cons ?kdi ?kdj ?kdk
           case kdi => exact (pq 3 (visL zlo) zc4 zc5)
           case kdj =>
            refine' pa_cons ?kdl pa_nil ?kdm
            case kdl => exact (pq 4 (visL zlg) zcq zcr)
            case kdm => rfl
           case kdk => rfl
          case kcl => rfl
     case kbz =>
      refine' pss_cons ?kdn ?kdo
      case kdn =>
       refine' ps_if ?kdp ?kdq pss_nil
       case kdp =>
        refine' pt_cmpR ?kdr ?kds ?kdt ?kdu
        case kdr => exact op_eq
        case kds => exact (pq 5 (visL zlp) zkr zks)
        case kdt => exact pe_int
        case kdu => exact (nomark _)
       case kdq =>
        refine' pss_one ?kdv
        case kdv =>
         refine' ps_ret ?kdw
         case kdw =>
          refine' pe_tup ?kdx
          case kdx =>
           refine' pa_cons ?kdy ?kdz ?kea
           case kdy =>
            refine' pe_op ?keb ?kec ?ked
            case keb => exact op_cat
            case kec =>
             refine' pe_callTy (hn := zby) (hdb := zbx) ?kee ?kef ?keg ?keh ?kei ?kej ?kek
             case kee => exact call_list_of
             case kef => exact zlr
             case keg => exact Z.n_list
             case keh => exact bt_list
             case kei =>
              refine' pa_cons ?kel pa_nil ?kem
              case kel => exact (pq 2 (visC zlh) zcs zct)
              case kem => rfl
             case kej => rfl
             case kek => rfl
            case ked =>
             refine' pe_slice ?ken ?keo po_none ?kep
             case ken => exact sl_list
             case keo =>
              refine' pe_lst ?keq
              case keq =>
               refine' pa_strs ?ker
               case ker => exact (by repeat constructor)
             case kep =>
              refine' po_some ?kes
              case kes =>
               refine' pe_op ?ket ?keu ?kev
               case ket => exact op_add
               case keu => exact pe_int
               case kev =>
                refine' pe_def (hdb := zbe) ?kew ?kex ?key ?kez ?kfa ?kfb
                case kew => exact D_law_draw
                case kex => exact (hr.mono (by decide))
                case key => exact zlf
                case kez =>
                 refine' pa_cons ?kfc ?kfd ?kfe
                 case kfc => exact (pq 0 (visL zll) zbn zbo)
                 case kfd =>
                  refine' pa_cons ?kff pa_nil ?kfg
                  case kff => exact pe_int
                  case kfg => rfl
                 case kfe => rfl
                case kfa => rfl
                case kfb => rfl
           case kdz =>
            refine' pa_cons ?kfh ?kfi ?kfj
            case kfh => exact (pq 3 (visL zlo) zc4 zc5)
            case kfi =>
             refine' pa_cons ?kfk pa_nil ?kfl
             case kfk => exact (pq 4 (visL zlg) zcq zcr)
             case kfl => rfl
            case kfj => rfl
           case kea => rfl
      case kdo =>
       refine' pss_cons ?kfm ?kfn
       case kfm =>
        refine' ps_if ?kfo ?kfp pss_nil
        case kfo =>
         refine' pt_cmpR ?kfq ?kfr ?kfs ?kft
         case kfq => exact op_eq
         case kfr => exact (pq 5 (visL zlp) zkr zks)
         case kfs => exact pe_int
         case kft => exact (nomark _)
        case kfp =>
         refine' pss_one ?kfu
         case kfu =>
          refine' ps_ret ?kfv
          case kfv =>
           refine' pe_tup ?kfw
           case kfw =>
            refine' pa_cons ?kfx ?kfy ?kfz
            case kfx =>
             refine' pe_op ?kga ?kgb ?kgc
             case kga => exact op_cat
             case kgb =>
              refine' pe_callTy (hn := zby) (hdb := zbx) ?kgd ?kge ?kgf ?kgg ?kgh ?kgi ?kgj
              case kgd => exact call_list_of
              case kge => exact zlr
              case kgf => exact Z.n_list
              case kgg => exact bt_list
              case kgh =>
               refine' pa_cons ?kgk pa_nil ?kgl
               case kgk => exact (pq 2 (visC zlh) zcs zct)
               case kgl => rfl
              case kgi => rfl
              case kgj => rfl
             case kgc =>
              refine' pe_lst ?kgm
              case kgm =>
               refine' pa_cons ?kgn pa_nil ?kgo
               case kgn =>
                refine' pe_ix ?kgp ?kgq ?kgr ?kgs
                case kgp => exact ix_list
                case kgq => exact (pq 2 (visC zlh) zcs zct)
                case kgr =>
                 refine' pe_def (hdb := zbe) ?kgt ?kgu ?kgv ?kgw ?kgx ?kgy
                 case kgt => exact D_law_draw
                 case kgu => exact (hr.mono (by decide))
                 case kgv => exact zlf
                 case kgw =>
                  refine' pa_cons ?kgz ?kha ?khb
                  case kgz => exact (pq 0 (visL zll) zbn zbo)
                  case kha =>
                   refine' pa_cons ?khc pa_nil ?khd
                   case khc =>
                    refine' pe_callB (hn := zbw) (hdb := zbv) ?khe ?khf ?khg ?khh ?khi ?khj ?khk
                    case khe => exact call_len_seq
                    case khf => exact zlq
                    case khg => exact Z.n_len
                    case khh => exact bt_len
                    case khi =>
                     refine' pa_cons ?khl pa_nil ?khm
                     case khl => exact (pq 2 (visC zlh) zcs zct)
                     case khm => rfl
                    case khj => rfl
                    case khk => rfl
                   case khd => rfl
                  case khb => rfl
                 case kgx => rfl
                 case kgy => rfl
                case kgs =>
                 intro _ _
                 exact rfl
               case kgo => rfl
            case kfy =>
             refine' pa_cons ?khn ?kho ?khp
             case khn => exact (pq 3 (visL zlo) zc4 zc5)
             case kho =>
              refine' pa_cons ?khq pa_nil ?khr
              case khq => exact (pq 4 (visL zlg) zcq zcr)
              case khr => rfl
             case khp => rfl
            case kfz => rfl
       case kfn =>
        refine' pss_cons ?khs ?kht
        case khs =>
         refine' ps_if ?khu ?khv pss_nil
         case khu =>
          refine' pt_cmpR ?khw ?khx ?khy ?khz
          case khw => exact op_eq
          case khx => exact (pq 5 (visL zlp) zkr zks)
          case khy => exact pe_int
          case khz => exact (nomark _)
         case khv =>
          refine' pss_one ?kia
          case kia =>
           refine' ps_ret ?kib
           case kib =>
            refine' pe_ix ?kic ?kid ?kie ?kif
            case kic => exact ix_list
            case kid =>
             refine' pe_lst ?kig
             case kig =>
              refine' pa_cons ?kih ?kii ?kij
              case kih =>
               refine' pe_tup ?kik
               case kik =>
                refine' pa_cons ?kil ?kim ?kin
                case kil =>
                 refine' pe_def (hdb := zkm) ?kio ?kip ?kiq ?kir ?kis ?kit
                 case kio => exact D_law_list_odd
                 case kip => exact (hr.mono (by decide))
                 case kiq => exact zli
                 case kir =>
                  refine' pa_cons ?kiu pa_nil ?kiv
                  case kiu => exact (pq 0 (visL zll) zbn zbo)
                  case kiv => rfl
                 case kis => rfl
                 case kit => rfl
                case kim =>
                 refine' pa_cons ?kiw ?kix ?kiy
                 case kiw => exact (pq 3 (visL zlo) zc4 zc5)
                 case kix =>
                  refine' pa_cons ?kiz pa_nil ?kja
                  case kiz => exact (pq 4 (visL zlg) zcq zcr)
                  case kja => rfl
                 case kiy => rfl
                case kin => rfl
              case kii =>
               refine' pa_cons ?kjb pa_nil ?kjc
               case kjb =>
                refine' pe_tup ?kjd
                case kjd =>
                 refine' pa_cons ?kje ?kjf ?kjg
                 case kje => exact (pq 2 (visC zlh) zcs zct)
                 case kjf =>
                  refine' pa_cons ?kjh ?kji ?kjj
                  case kjh =>
                   refine' pe_def (hdb := zkm) ?kjk ?kjl ?kjm ?kjn ?kjo ?kjp
                   case kjk => exact D_law_list_odd
                   case kjl => exact (hr.mono (by decide))
                   case kjm => exact zli
                   case kjn =>
                    refine' pa_cons ?kjq pa_nil ?kjr
                    case kjq => exact (pq 0 (visL zll) zbn zbo)
                    case kjr => rfl
                   case kjo => rfl
                   case kjp => rfl
                  case kji =>
                   refine' pa_cons ?kjs pa_nil ?kjt
                   case kjs => exact (pq 4 (visL zlg) zcq zcr)
                   case kjt => rfl
                  case kjj => rfl
                 case kjg => rfl
               case kjc => rfl
              case kij => rfl
            case kie =>
             refine' pe_def (hdb := zbe) ?kju ?kjv ?kjw ?kjx ?kjy ?kjz
             case kju => exact D_law_draw
             case kjv => exact (hr.mono (by decide))
             case kjw => exact zlf
             case kjx =>
              refine' pa_cons ?kka ?kkb ?kkc
              case kka => exact (pq 0 (visL zll) zbn zbo)
              case kkb =>
               refine' pa_cons ?kkd pa_nil ?kke
               case kkd => exact pe_int
               case kke => rfl
              case kkc => rfl
             case kjy => rfl
             case kjz => rfl
            case kif =>
             intro _ _
             exact rfl
        case kht =>
         refine' pss_cons ?kkf ?kkg
         case kkf =>
          refine' ps_if ?kkh ?kki pss_nil
          case kkh =>
           refine' pt_cmpR ?kkj ?kkk ?kkl ?kkm
           case kkj => exact op_eq
           case kkk => exact (pq 5 (visL zlp) zkr zks)
           case kkl => exact pe_int
           case kkm => exact (nomark _)
          case kki =>
           refine' pss_one ?kkn
           case kkn =>
            refine' ps_ret ?kko
            case kko =>
             refine' pe_tup ?kkp
             case kkp =>
              refine' pa_cons ?kkq ?kkr ?kks
              case kkq => exact (pq 2 (visC zlh) zcs zct)
              case kkr =>
               refine' pa_cons ?kkt ?kku ?kkv
               case kkt => exact (pq 3 (visL zlo) zc4 zc5)
               case kku =>
                refine' pa_cons ?kkw pa_nil ?kkx
                case kkw =>
                 refine' pe_def (hdb := zkm) ?kky ?kkz ?kla ?klb ?klc ?kld
                 case kky => exact D_law_list_odd
                 case kkz => exact (hr.mono (by decide))
                 case kla => exact zli
                 case klb =>
                  refine' pa_cons ?kle pa_nil ?klf
                  case kle => exact (pq 0 (visL zll) zbn zbo)
                  case klf => rfl
                 case klc => rfl
                 case kld => rfl
                case kkx => rfl
               case kkv => rfl
              case kks => rfl
         case kkg =>
          refine' pss_cons ?klg ?klh
          case klg =>
           refine' ps_if ?kli ?klj pss_nil
           case kli =>
            refine' pt_cmpR ?klk ?kll ?klm ?kln
            case klk => exact op_eq
            case kll => exact (pq 5 (visL zlp) zkr zks)
            case klm => exact pe_int
            case kln => exact (nomark _)
           case klj =>
            refine' pss_one ?klo
            case klo =>
             refine' ps_ret ?klp
             case klp =>
              refine' pe_tup ?klq
              case klq =>
               refine' pa_cons ?klr ?kls ?klt
               case klr => exact (pq 2 (visC zlh) zcs zct)
               case kls =>
                refine' pa_cons ?klu ?klv ?klw
                case klu =>
                 refine' pe_def (hdb := zlc) ?klx ?kly ?klz ?kma ?kmb ?kmc
                 case klx => exact D_law_spoilt_sign
                 case kly => exact (hr.mono (by decide))
                 case klz => exact zln
                 case kma =>
                  refine' pa_cons ?kmd ?kme ?kmf
                  case kmd => exact (pq 0 (visL zll) zbn zbo)
                  case kme =>
                   refine' pa_cons ?kmg ?kmh ?kmi
                   case kmg => exact (pq 3 (visL zlo) zc4 zc5)
                   case kmh =>
                    refine' pa_cons ?kmj pa_nil ?kmk
                    case kmj => exact (pq 2 (visC zlh) zcs zct)
                    case kmk => rfl
                   case kmi => rfl
                  case kmf => rfl
                 case kmb => rfl
                 case kmc => rfl
                case klv =>
                 refine' pa_cons ?kml pa_nil ?kmm
                 case kml => exact (pq 4 (visL zlg) zcq zcr)
                 case kmm => rfl
                case klw => rfl
               case klt => rfl
          case klh =>
           refine' pss_cons ?kmn ?kmo
           case kmn =>
            refine' ps_if ?kmp ?kmq pss_nil
            case kmp =>
             refine' pt_cmpR ?kmr ?kms ?kmt ?kmu
             case kmr => exact op_eq
             case kms => exact (pq 5 (visL zlp) zkr zks)
             case kmt => exact pe_int
             case kmu => exact (nomark _)
            case kmq =>
             refine' pss_one ?kmv
             case kmv =>
              refine' ps_ret ?kmw
              case kmw =>
               refine' pe_tup ?kmx
               case kmx =>
                refine' pa_cons ?kmy ?kmz ?kna
                case kmy => exact (pq 2 (visC zlh) zcs zct)
                case kmz =>
                 refine' pa_cons ?knb ?knc ?knd
                 case knb => exact (pq 3 (visL zlo) zc4 zc5)
                 case knc =>
                  refine' pa_cons ?kne pa_nil ?knf
                  case kne =>
                   refine' pe_def (hdb := zlc) ?kng ?knh ?kni ?knj ?knk ?knl
                   case kng => exact D_law_spoilt_sign
                   case knh => exact (hr.mono (by decide))
                   case kni => exact zln
                   case knj =>
                    refine' pa_cons ?knm ?knn ?kno
                    case knm => exact (pq 0 (visL zll) zbn zbo)
                    case knn =>
                     refine' pa_cons ?knp ?knq ?knr
                     case knp => exact (pq 4 (visL zlg) zcq zcr)
                     case knq =>
                      refine' pa_cons ?kns pa_nil ?knt
                      case kns => exact (pq 2 (visC zlh) zcs zct)
                      case knt => rfl
                     case knr => rfl
                    case kno => rfl
                   case knk => rfl
                   case knl => rfl
                  case knf => rfl
                 case knd => rfl
                case kna => rfl
           case kmo =>
            refine' pss_cons ?knu ?knv
            case knu =>
             refine' ps_if ?knw ?knx pss_nil
             case knw =>
              refine' pt_cmpR ?kny ?knz ?koa ?kob
              case kny => exact op_eq
              case knz => exact (pq 5 (visL zlp) zkr zks)
              case koa => exact pe_int
              case kob => exact (nomark _)
             case knx =>
              refine' pss_one ?koc
              case koc =>
               refine' ps_ret ?kod
               case kod =>
                refine' pe_tup ?koe
                case koe =>
                 refine' pa_cons ?kof ?kog ?koh
                 case kof => exact (pq 2 (visC zlh) zcs zct)
                 case kog =>
                  refine' pa_cons ?koi ?koj ?kok
                  case koi => exact (pq 3 (visL zlo) zc4 zc5)
                  case koj =>
                   refine' pa_cons ?kol pa_nil ?kom
                   case kol =>
                    refine' pe_op ?kon ?koo ?kop
                    case kon => exact op_cat
                    case koo =>
                     refine' pe_callTy (hn := zby) (hdb := zbx) ?koq ?kor ?kos ?kot ?kou ?kov ?kow
                     case koq => exact call_list_of
                     case kor => exact zlr
                     case kos => exact Z.n_list
                     case kot => exact bt_list
                     case kou =>
                      refine' pa_cons ?kox pa_nil ?koy
                      case kox => exact (pq 4 (visL zlg) zcq zcr)
                      case koy => rfl
                     case kov => rfl
                     case kow => rfl
                    case kop =>
                     refine' pe_comp ?koz ?kpa ?kpb ?kpc ?kpd ?kpe ?kpf
                     case koz => exact noxe
                     case kpa => exact rfl
                     case kpb => exact zlv.at
                     case kpc =>
                      refine' pi_seq ?kpg
                      case kpg =>
                       refine' pe_slice ?kph ?kpi po_none ?kpj
                       case kph => exact sl_seq
                       case kpi => exact (pq 3 (visL zlo) zc4 zc5)
                       case kpj =>
                        refine' po_some ?kpk
                        case kpk => exact pe_int
                     case kpd =>
                      intro _ _ _ _ _
                      refine' pg_name (i := 0) ?kpl ?kpm ?kpn ?kpo
                      case kpl => exact zlv.nd
                      case kpm => exact rfl
                      case kpn => exact (locO zlx)
                      case kpo => exact (.inr (lookup_relabel_local zlx))
                     case kpe =>
                      intro _ _ _ _ _
                      refine' pe_tup ?kpp
                      case kpp =>
                       refine' pa_cons ?kpq ?kpr ?kps
                       case kpq =>
                        refine' pe_ix ?kpt ?kpu ?kpv ?kpw
                        case kpt => exact ix_seq
                        case kpu => exact (pq 0 (visO zlx) ziy ziz)
                        case kpv => exact pe_int
                        case kpw =>
                         intro _ _
                         exact rfl
                       case kpr =>
                        refine' pa_cons ?kpx ?kpy ?kpz
                        case kpx =>
                         refine' pe_ix ?kqa ?kqb ?kqc ?kqd
                         case kqa => exact ix_seq
                         case kqb => exact (pq 0 (visO zlx) ziy ziz)
                         case kqc => exact pe_int
                         case kqd =>
                          intro _ _
                          exact rfl
                        case kpy =>
                         refine' pa_cons ?kqe pa_nil ?kqf
                         case kqe =>
                          refine' pe_ix ?kqg ?kqh ?kqi ?kqj
                          case kqg => exact ix_seq
                          case kqh => exact (pq 3 (visF zlw) zcs zct)
                          case kqi => exact pe_int
                          case kqj =>
                           intro _ _
                           exact rfl
                         case kqf => rfl
                        case kpz => rfl
                       case kps => rfl
                     case kpf => intro _; rfl
                   case kom => rfl
                  case kok => rfl
                 case koh => rfl
            case knv =>
             refine' pss_cons ?kqk ?kql
             case kqk =>
              refine' ps_setComp (i := 6) (x := Str.ofString "_law_more") ?kqm ?kqn ?kqo ?kqp ?kqq ?kqr ?kqs ?kqt ?kqu ?kqv ?kqw ?kqx
              case kqm => exact SC.nd
              case kqn => exact rfl
              case kqo => exact (Or.inl zlj)
              case kqp => exact rfl
              case kqq => exact noxe
              case kqr => exact rfl
              case kqs => exact zlt.at
              case kqt =>
               refine' pi_range1 ?kqy ?kqz ?kra ?krb
               case kqy => exact zls
               case kqz => exact Z.n_range
               case kra =>
                refine' pa_cons ?krc pa_nil ?krd
                case krc =>
                 refine' pe_def (hdb := zbe) ?kre ?krf ?krg ?krh ?kri ?krj
                 case kre => exact D_law_draw
                 case krf => exact (hr.mono (by decide))
                 case krg => exact zlf
                 case krh =>
                  refine' pa_cons ?krk ?krl ?krm
                  case krk => exact (pq 0 (visL zll) zbn zbo)
                  case krl =>
                   refine' pa_cons ?krn pa_nil ?kro
                   case krn => exact pe_int
                   case kro => rfl
                  case krm => rfl
                 case kri => rfl
                 case krj => rfl
                case krd => rfl
               case krb => rfl
              case kqu =>
               intro _ _ _ _ _
               refine' pg_name (i := 0) ?krp ?krq ?krr ?krs
               case krp => exact zlt.nd
               case krq => exact rfl
               case krr => exact (locO zlu)
               case krs => exact (.inr (lookup_relabel_local zlu))
              case kqv =>
               intro _ _ _ _ _
               refine' pe_tup ?krt
               case krt =>
                refine' pa_cons ?kru ?krv ?krw
                case kru =>
                 refine' pe_op ?krx ?kry ?krz
                 case krx => exact op_add_str
                 case kry => exact pe_str
                 case krz =>
                  refine' pe_ix ?ksa ?ksb ?ksc ?ksd
                  case ksa => exact ix_str
                  case ksb => exact pe_str
                  case ksc => exact (pq 0 (visO zlu) zbf zbg)
                  case ksd =>
                   intro _ _
                   exact rfl
                case krv =>
                 refine' pa_cons ?kse pa_nil ?ksf
                 case kse =>
                  refine' pe_lst pa_nil
                 case ksf => rfl
                case krw => rfl
              case kqw => intro _; rfl
              case kqx => exact .inl rfl
             case kql =>
              refine' pss_one ?ksg
              case ksg =>
               refine' ps_ret ?ksh
               case ksh =>
                refine' pe_tup ?ksi
                case ksi =>
                 refine' pa_cons ?ksj ?ksk ?ksl
                 case ksj => exact (pq 2 (visC zlh) zcs zct)
                 case ksk =>
                  refine' pa_cons ?ksm ?ksn ?kso
                  case ksm =>
                   refine' pe_op ?ksp ?ksq ?ksr
                   case ksp => exact op_cat
                   case ksq =>
                    refine' pe_callTy (hn := zby) (hdb := zbx) ?kss ?kst ?ksu ?ksv ?ksw ?ksx ?ksy
                    case kss => exact call_list_of
                    case kst => exact zlr
                    case ksu => exact Z.n_list
                    case ksv => exact bt_list
                    case ksw =>
                     refine' pa_cons ?ksz pa_nil ?kta
                     case ksz => exact (pq 3 (visL zlo) zc4 zc5)
                     case kta => rfl
                    case ksx => rfl
                    case ksy => rfl
                   case ksr => exact (pq 6 (visL zlj) zla zlb)
                  case ksn =>
                   refine' pa_cons ?ktb pa_nil ?ktc
                   case ktb => exact (pq 4 (visL zlg) zcq zcr)
                   case ktc => rfl
                  case kso => rfl
                 case ksl => rfl
  have W0 := Went.refl hp
  have fr : ∀ {H4 : Hp}, PotAt H4 p → ∀ a, H4 a = none → a ≠ p := fun h a ha z => by obtain ⟨o, e⟩ := h.some; rw [← z, ha] at e; cases e
  refine ⟨_, rfl, B, _, rfl, SqT.of hb.tup, rfl, _, _, rfl, _, _, rfl, _, _, rfl, rfl, ?_⟩
  refine ⟨_, rfl, p, _, rfl, hp, by decide, by decide, fun way H1 a0 a1 hp1 s1 => ?_⟩
  have W1 := W0.mk1 hp1 s1
  have mk : ∀ (H2 : Hp) (B' : Addr) (u1 u2 u3 : V), Went p H H2 → H2 B' = none → Th p H2 3 650 u1 → Th p H2 5 27000 u2 → Th p H2 5 27000 u3 → NoTup H2 u1 → Q (.ref B') (upd H2 B' (.tup [u1, u2, u3])) := fun H2 B' u1 u2 u3 W2 hB' t1 t2 t3 nt => by
   have sB := same_new hB' (.tup [u1, u2, u3])
   exact q B' u1 u2 u3 _ ⟨upd_same, fr W2.pot B' hB', t1.same sB, t2.same sB, t3.same sB, t1.noTup nt fun d o _ e => sB d o e⟩ (W2.new hB' _)
  have size3 : 3 ≤ sizeLine := by decide
  have ntl : ∀ {H2 : Hp} {l : Addr} {ys : List V}, H2 l = some (.lst ys) → NoTup H2 (.ref l) := fun e b ys e1 e2 => by cases e1; rw [e] at e2; cases e2
  have k1 : ∀ {H2 : Hp}, Went p H H2 → Th p H2 3 650 (.ref a) := fun w => hb.t1.sx w.same
  have k2 : ∀ {H2 : Hp}, Went p H H2 → Th p H2 5 27000 (.ref b) := fun w => hb.t2.sx w.same
  have k3 : ∀ {H2 : Hp}, Went p H H2 → Th p H2 5 27000 (.ref c) := fun w => hb.t3.sx w.same
  have kn : ∀ {H2 : Hp}, Went p H H2 → NoTup H2 (.ref a) := fun w => ntl (w.same _ _ na la)
  refine ⟨_, rfl, rfl, _, rfl, ite2 (fun _ => ?_) (fun _ => ?_)⟩
  ·
   refine ⟨_, rfl, _, rfl, _, rfl, p, rfl, hp1, fun v H2 hv W2 => ?_⟩
   have W02 := W1.trans W2
   refine ⟨p, a, us, v, rfl, W2.pot, .inl (W02.same _ _ na la), by omega, fun l ys H3 hl3 e3 le3 _ hy3 W3 => ?_⟩
   have W03 := W02.trans W3
   refine ⟨_, rfl, _, rfl, size3, fun B' hB' => mk H3 B' _ _ _ W03 hB' ?_ (k2 W03) (k3 W03) (ntl e3)⟩
   refine ThR.row' (fr W02.pot l hl3) (.inl e3) (n := 2) (W := 80) (m := 5) (fun y hy => ?_) (by omega) (by decide) (by decide)
   rcases hy3 y hy with h | h
   ·exact ((hus y h).sx W03.same).mono (by decide) (by decide)
   ·rw [h]; exact (hv.reg (R' := (· ≠ p)) (fr hp1) fun d o hd e => W3.same d o (fr hp1 d hd) e).mono (by decide) (by decide)
  refine ⟨_, rfl, rfl, _, rfl, ite2 (fun _ => ?_) (fun _ => ?_)⟩
  ·
   refine ⟨_, rfl, a, _, rfl, .inl (SqL.of (W1.same _ _ na la)), fun L1 hL1 => ?_⟩
   have W2 := W1.new hL1 (.lst us)
   refine ⟨by show 3 ≤ sizeLine; decide, fun L2 hL2 => ?_⟩
   have W3 := W2.new hL2 (.lst ((["e", "d", "h"] : List Str).map V.str))
   refine ⟨_, rfl, p, _, rfl, W3.pot, by decide, by decide, fun r H4 b0 b1 hp4 s4 => ?_⟩
   have W4 := W3.mk1 hp4 s4
   have g1 : H4 L1 = some (.lst us) := s4 _ _ (fr hp1 L1 hL1) (same_new hL2 _ _ _ upd_same)
   have g2 : H4 L2 = some (.lst ((["e", "d", "h"] : List Str).map V.str)) := s4 _ _ (fr W2.pot L2 hL2) upd_same
   refine ⟨_, _, rfl, rfl, _, rfl, L2, _, rfl, SqL.of g2, fun L3 hL3 => ?_⟩
   generalize hcv : cutV ((["e", "d", "h"] : List Str).map V.str) none (some (1 + r)) = cv
   have hc3 : cv.length ≤ 3 := by rw [← hcv]; exact Nat.le_trans (cutV_length _ _ _) (by simp)
   have W5 := W4.new hL3 (.lst cv)
   refine ⟨L1, L3, us, cv, rfl, rfl, same_new hL3 _ _ _ g1, upd_same, Nat.le_trans (show us.length + cv.length ≤ 7 by omega) (by decide), fun L4 hL4 => ?_⟩
   have W6 := W5.new hL4 (.lst (us ++ cv))
   have nL4 := fr W5.pot L4 hL4
   refine ⟨_, rfl, _, rfl, size3, fun B' hB' => mk _ B' _ _ _ W6 hB' ?_ (k2 W6) (k3 W6) (ntl upd_same)⟩
   ·refine ThR.row' nL4 (.inl upd_same) (n := 0) (W := 13) (m := 7) (fun y hy => ?_) (by rw [List.length_append]; omega) (by decide) (by decide)
    rcases List.mem_append.mp hy with h | h
    ·exact ((hus y h).sx W6.same).mono (by decide) (by decide)
    ·rw [← hcv] at h
     obtain ⟨z, hz, rfl⟩ := List.mem_map.mp (cutV_mem h)
     exact edh hz
  refine ⟨_, rfl, rfl, _, rfl, ite2 (fun _ => ?_) (fun _ => ?_)⟩
  ·
   refine ⟨_, rfl, a, _, rfl, .inl (SqL.of (W1.same _ _ na la)), fun L1 hL1 => ?_⟩
   have W2 := W1.new hL1 (.lst us)
   refine ⟨_, rfl, _, rfl, _, rfl, a, _, rfl, .inl (SqL.of (W2.same _ _ na la)), p, _, rfl, W2.pot, by omega, by omega, fun r H3 b0 b1 hp3 s3 => ?_⟩
   have W3 := W2.mk1 hp3 s3
   have hr3 : r.toNat < us.length := by omega
   refine ⟨a, _, r, us[r.toNat], rfl, rfl, SqL.of (W3.same _ _ na la), atI_int b0 (List.getElem?_eq_getElem hr3), by show 1 ≤ sizeLine; decide, fun L2 hL2 => ?_⟩
   have W4 := W3.new hL2 (.lst [us[r.toNat]])
   have g1 : H3 L1 = some (.lst us) := s3 _ _ (fr hp1 L1 hL1) upd_same
   refine ⟨L1, L2, us, _, rfl, rfl, same_new hL2 _ _ _ g1, upd_same, Nat.le_trans (show us.length + [us[r.toNat]].length ≤ 5 by simp; omega) (by decide), fun L3 hL3 => ?_⟩
   have W5 := W4.new hL3 (.lst (us ++ [us[r.toNat]]))
   refine ⟨_, rfl, _, rfl, size3, fun B' hB' => mk _ B' _ _ _ W5 hB' ?_ (k2 W5) (k3 W5) (ntl upd_same)⟩
   refine ThR.row' (fr W4.pot L3 hL3) (.inl upd_same) (n := 0) (W := 12) (m := 5) (fun y hy => ?_) (by simp; omega) (by decide) (by decide)
   rcases List.mem_append.mp hy with h | h
   ·exact (hus y h).sx W5.same
   ·rw [List.mem_singleton.mp h]; exact (hus _ (List.getElem_mem hr3)).sx W5.same
  refine ⟨_, rfl, rfl, _, rfl, ite2 (fun _ => ?_) (fun _ => ?_)⟩
  ·
   refine ⟨_, rfl, p, rfl, hp1, fun v H2 hv nv W2 => ?_⟩
   have W02 := W1.trans W2
   refine ⟨_, rfl, _, rfl, size3, fun B1 hB1 => ?_⟩
   have W3 := W02.new hB1 (.tup [v, .ref b, .ref c])
   refine ⟨_, rfl, _, rfl, p, rfl, W3.pot, fun v' H4 hv' nv' W4 => ?_⟩
   have W04 := W3.trans W4
   refine ⟨_, rfl, size3, fun B2 hB2 => ?_⟩
   have W5 := W04.new hB2 (.tup [.ref a, v', .ref c])
   refine ⟨by show 2 ≤ sizeLine; decide, fun L hL => ?_⟩
   have W6 := W5.new hL (.lst [.ref B1, .ref B2])
   refine ⟨_, rfl, p, _, rfl, W6.pot, by decide, by decide, fun r H7 b0 b1 hp7 s7 => ?_⟩
   have W7 := W6.mk1 hp7 s7
   have s57 : SameX p H4 H7 := ((same_new hB2 _).trans (same_new hL _)).x.trans s7
   have s37 : SameX p (upd H2 B1 (.tup [v, .ref b, .ref c])) H7 := W4.same.trans s57
   have s27 : SameX p H2 H7 := (same_new hB1 _).x.trans s37
   have nB1 := fr W02.pot B1 hB1
   have nB2 := fr W04.pot B2 hB2
   have e1 : H7 B1 = some (.tup [v, .ref b, .ref c]) := s37 _ _ nB1 upd_same
   have e2 : H7 B2 = some (.tup [.ref a, v', .ref c]) := ((same_new hL _).x.trans s7) _ _ nB2 upd_same
   have eL : H7 L = some (.lst [.ref B1, .ref B2]) := s7 _ _ (fr W5.pot L hL) upd_same
   have q1 : Q (.ref B1) H7 := q B1 v (.ref b) (.ref c) H7 ⟨e1, nB1, (hv.reg (R' := (· ≠ p)) (fr hp1) fun d o hd e => s27 d o (fr hp1 d hd) e).mono (by decide) (by decide), k2 W7, k3 W7, hv.noTup nv fun d o hd e => s27 d o (fr hp1 d hd) e⟩ W7
   have q2 : Q (.ref B2) H7 := q B2 (.ref a) v' (.ref c) H7 ⟨e2, nB2, k1 W7, (hv'.reg (R' := (· ≠ p)) (fr W3.pot) fun d o hd e => s57 d o (fr W3.pot d hd) e).mono (by decide) (by decide), k3 W7, kn W7⟩ W7
   have h2 : r = 0 ∨ r = 1 := by omega
   rcases h2 with rfl | rfl
   ·exact ⟨L, _, 0, .ref B1, rfl, rfl, SqL.of eL, rfl, q1⟩
   ·exact ⟨L, _, 1, .ref B2, rfl, rfl, SqL.of eL, rfl, q2⟩
  refine ⟨_, rfl, rfl, _, rfl, ite2 (fun _ => ?_) (fun _ => ?_)⟩
  ·
   refine ⟨_, rfl, _, rfl, _, rfl, p, rfl, hp1, fun v H2 hv nv W2 => ?_⟩
   have W02 := W1.trans W2
   exact ⟨size3, fun B' hB' => mk _ B' _ _ _ W02 hB' (k1 W02) (k2 W02) ((hv.reg (R' := (· ≠ p)) (fr hp1) fun d o hd e => e).mono (by decide) (by decide)) (kn W02)⟩
  refine ⟨_, rfl, rfl, _, rfl, ite2 (fun _ => ?_) (fun _ => ?_)⟩
  ·
   refine ⟨_, rfl, _, rfl, _, rfl, _, rfl, p, b, a, xs, us, rfl, hp1, nb, LT.sx lb nb s1, lb8, fun x hx => (sb x hx).sx s1, na, .inl (s1 _ _ na la), l1, fun u hu => (hus u hu).sx s1, fun l ys H2 hl2 e2 le2 hy2 W2 => ?_⟩
   have W02 := W1.trans W2
   refine ⟨_, rfl, size3, fun B' hB' => mk _ B' _ _ _ W02 hB' (k1 W02) ?_ (k3 W02) (kn W02)⟩
   exact ThR.row' (fr hp1 l hl2) (.inl e2) hy2 le2 (by decide) (by decide)
  refine ⟨_, rfl, rfl, _, rfl, ite2 (fun _ => ?_) (fun _ => ?_)⟩
  ·
   refine ⟨_, rfl, _, rfl, _, rfl, _, rfl, _, rfl, p, c, a, zs, us, rfl, hp1, nc, LT.sx lc nc s1, lc8, fun x hx => (sc x hx).sx s1, na, .inl (s1 _ _ na la), l1, fun u hu => (hus u hu).sx s1, fun l ys H2 hl2 e2 le2 hy2 W2 => ?_⟩
   have W02 := W1.trans W2
   refine ⟨size3, fun B' hB' => mk _ B' _ _ _ W02 hB' (k1 W02) (k2 W02) ?_ (kn W02)⟩
   exact ThR.row' (fr hp1 l hl2) (.inl e2) hy2 le2 (by decide) (by decide)
  refine ⟨_, rfl, rfl, _, rfl, ite2 (fun _ => ?_) (fun _ => ?_)⟩
  ·
   refine ⟨_, rfl, _, rfl, _, rfl, c, _, rfl, (LT.sx lc nc s1).sq, fun L1 hL1 => ?_⟩
   have W2 := W1.new hL1 (.lst zs)
   obtain ⟨u0, ur, hus0⟩ : ∃ u0 ur, us = u0 :: ur := by
    match us, l1 with
    | u0 :: ur, _ => exact ⟨u0, ur, rfl⟩
   have key : ∀ (H3 : Hp) (u : Addr) (ys : List V) (J : It) (te : InBlock TE) (R : VK) (σ : St), Over H3 u ys J → Went p H H3 → H3 L1 = some (.lst zs) → ys.length ≤ 1 → (∀ y ∈ ys, y ∈ xs) →
     (∀ (y : V) (H4 : Hp) (N : VK) cl C ex s0 H0, y ∈ xs → Went p H H4 → H4 L1 = some (.lst zs) → (∀ v H5, Th p H5 4 1650 v → Same H4 H5 → N v H5) → te cl C ex s0 H0 (some y :: σ) H4 N) →
     (∀ D H5 ws, H5 D = some (.lst ws) → D ≠ p → ws.length ≤ 1 → (∀ y ∈ ws, Th p H5 4 1650 y) → Went p H H5 → H5 L1 = some (.lst zs) → R (.ref D) H5) → ∀ cl C ex s0 H0, CompOk 1 J (gName 0) (te cl C ex s0 H0) σ H3 R := by
    intro H3 u ys J te R σ O W3 g3 ly hy ht hR cl C ex s0 H0
    refine O.comp (fun i ws H4 => ws.length ≤ i ∧ (∀ y ∈ ws, Th p H4 4 1650 y) ∧ Same H3 H4) ⟨Nat.le_refl _, (fun _ z => nomatch z), Same.refl _⟩ (Nat.le_trans ly (by decide)) (fun i ws H4 _ ⟨_, _, z⟩ o e => z _ _ e) ?_ ?_
    ·rintro i y ws H4 hi hw ⟨l, hws, s4⟩
     refine ht y H4 _ cl C ex s0 H0 (hy y (List.mem_of_getElem? hi)) ⟨W3.pot.keep s4, W3.same.same s4⟩ (s4 _ _ g3) fun v H5 hv s5 => ⟨by simp; omega, fun z hz => ?_, s4.trans s5⟩
     rcases List.mem_append.mp hz with h | h
     ·exact (hws z h).same s5
     ·rw [List.mem_singleton.mp h]; exact hv
    ·rintro ws H4 hw ⟨l, hws, s4⟩ D hD
     have W4 : Went p H H4 := ⟨W3.pot.keep s4, W3.same.same s4⟩
     exact hR D _ ws upd_same (fr W4.pot D hD) (by omega) (fun y hy => (hws y hy).same (same_new hD _)) (W4.new hD _) (same_new hD _ _ _ (s4 _ _ g3))
   refine LT.cutOne (i := 3) (LT.sx lb nb W2.same) rfl fun u H3 J O s3 => ?_
   have W3 : Went p H H3 := ⟨W2.pot.keep s3, W2.same.same s3⟩
   refine key H3 u (xs.take 1) J _ _ _ O W3 (s3 _ _ upd_same) (by rw [List.length_take]; omega) (fun y hy => List.mem_of_mem_take hy) ?_ ?_
   ·intro y H4 N cl C ex s0 H0 hy W4 g4 hN
    obtain ⟨q', nm, c', r, ps, rfl, n1, e1, n2, e2, h1, h2, h3, h4, h5⟩ := (sb y hy).sx W4.same
    have hA4 : LT H4 a (u0 :: ur) := by rw [← hus0]; exact .inl (W4.same _ _ na la)
    refine ⟨_, rfl, e1.ix at0 ⟨_, rfl, e1.ix at1 ⟨_, rfl, hA4.ix at0 ⟨size3, fun t ht => ?_⟩⟩⟩⟩
    have st := same_new ht (.tup [.str nm, .ref c', u0])
    refine hN _ _ ?_ st
    refine ThR.row' (fr W4.pot t ht) (.inr upd_same) (n := 3) (W := 410) (m := 3) (fun z hz => ?_) (by simp) (by decide) (by decide)
    refine (SgR.elems (q := q') (r := [u0]) n2 e2 h1 h3 (fun z hz => ?_) h5 z hz).same st
    rw [List.mem_singleton.mp hz]
    exact (hus u0 (by rw [hus0]; simp)).sx W4.same
   ·intro D H5 ws eD nD lw hw W5 g5
    refine ⟨L1, D, zs, ws, rfl, rfl, g5, eD, Nat.le_trans (show zs.length + ws.length ≤ 9 by omega) (by decide), fun L4 hL4 => ?_⟩
    have W6 := W5.new hL4 (.lst (zs ++ ws))
    refine ⟨size3, fun B' hB' => mk _ B' _ _ _ W6 hB' (k1 W6) (k2 W6) ?_ (kn W6)⟩
    refine ThR.row' (fr W5.pot L4 hL4) (.inl upd_same) (n := 4) (W := 1650) (m := 9) (fun y hy => ?_) (by rw [List.length_append]; omega) (by decide) (by decide)
    rcases List.mem_append.mp hy with h | h
    ·exact ((sc y h).sx W6.same).th
    ·exact (hw y h).same (same_new hL4 _)
  ·
   refine ⟨_, rfl, p, _, rfl, hp1, by decide, by decide, fun r H2 b0 b1 hp2 s2 => ?_⟩
   have W2 := W1.mk1 hp2 s2
   refine ⟨r, rfl, by omega, by omega, ?_⟩
   intro cl C1 ex s0 H0
   refine comp_it1 r.toNat (fun i ws H3 => ws.length ≤ i ∧ (∀ y ∈ ws, Th p H3 4 1650 y) ∧ Same H2 H3) (fun i x => x = .int (0 + (i : Int))) ⟨Nat.le_refl _, (fun _ z => nomatch z), Same.refl _⟩ (Nat.le_trans (show r.toNat ≤ 9 by omega) (by decide)) (fun i ys H3 hi _ _ => ⟨hi, fun x H' y => ⟨y.1, y.2⟩⟩) (fun _ _ _ _ => Nat.le_refl _) ?_ ?_
   ·rintro i x ws H3 hi rfl hy ⟨lw, hw, s3⟩
    have hi8 : i < 8 := by omega
    refine ⟨_, rfl, _, 0 + (i : Int), 97 + i, rfl, rfl, by decide, atI_int (by omega) (by rw [show (0 + (i : Int)).toNat = i by omega]; exact ah_at i hi8), _, _, rfl, rfl, by rw [ah_len i hi8]; decide, ?_⟩
    refine ⟨by show 0 ≤ sizeLine; decide, fun l hl => ⟨by show 2 ≤ sizeLine; decide, fun t ht => ?_⟩⟩
    have W3 : Went p H H3 := ⟨W2.pot.keep s3, W2.same.same s3⟩
    have sl := same_new hl (.lst [])
    have st := same_new ht (.tup [.str (Str.ofString "m" ++ ⟨#[97 + i]⟩), .ref l])
    refine ⟨by simp; omega, fun y hy => ?_, s3.trans (sl.trans st)⟩
    rcases List.mem_append.mp hy with h | h
    ·exact (hw y h).same (sl.trans st)
    ·rw [List.mem_singleton.mp h]
     refine ThR.row' (fr (W3.new hl _).pot t ht) (.inr upd_same) (n := 1) (W := 20) (m := 2) (fun z hz => ?_) (by simp) (by decide) (by decide)
     simp only [List.mem_cons, List.not_mem_nil, or_false] at hz
     rcases hz with rfl | rfl
     ·exact (ThR.small (ah_small i hi8)).mono (by decide) (by decide)
     ·exact ThR.row' (fr W3.pot l hl) (.inl (st _ _ upd_same)) (n := 0) (W := 0) (m := 0) (fun _ z => nomatch z) (by simp) (by decide) (by decide)
   ·rintro ws H3 hwl ⟨lw, hw, s3⟩ M hM
    have W3 : Went p H H3 := ⟨W2.pot.keep s3, W2.same.same s3⟩
    have W4 := W3.new hM (.lst ws)
    refine ⟨_, rfl, _, rfl, b, _, rfl, (LT.sx lb nb W4.same).sq, fun L1 hL1 => ?_⟩
    have W5 := W4.new hL1 (.lst xs)
    refine ⟨_, rfl, L1, M, xs, ws, rfl, rfl, upd_same, same_new hL1 _ _ _ upd_same, Nat.le_trans (show xs.length + ws.length ≤ 17 by omega) (by decide), fun L2 hL2 => ?_⟩
    have W6 := W5.new hL2 (.lst (xs ++ ws))
    refine ⟨_, rfl, size3, fun B' hB' => mk _ B' _ _ _ W6 hB' (k1 W6) ?_ (k3 W6) (kn W6)⟩
    refine ThR.row' (fr W5.pot L2 hL2) (.inl upd_same) (n := 4) (W := 1650) (m := 16) (fun y hy => ?_) (by rw [List.length_append]; omega) (by decide) (by decide)
    rcases List.mem_append.mp hy with h | h
    ·exact ((sb y h).sx W6.same).th
    ·exact (hw y h).same (((same_new hM _).trans (same_new hL1 _)).trans (same_new hL2 _))
end
end FewE

set_option Elab.async false
set_option linter.all false
set_option maxRecDepth 100000
set_option maxHeartbeats 1000000
namespace FewE
open PySem L2 Few
theorem zly : ((Str.ofString "FewError" : Str) == ("__debug__" : Str)) = false := by decide +kernel
theorem zlz : ((Str.ofString "NoNaming" : Str) == ("__debug__" : Str)) = false := by decide +kernel
theorem zl0 : ((Str.ofString "NoPart" : Str) == ("__debug__" : Str)) = false := by decide +kernel
theorem zl1 : ((Str.ofString "NoRow" : Str) == ("__debug__" : Str)) = false := by decide +kernel
theorem zl2 : ((Str.ofString "NoSaying" : Str) == ("__debug__" : Str)) = false := by decide +kernel
theorem zl3 : ((Str.ofString "NoSize" : Str) == ("__debug__" : Str)) = false := by decide +kernel
theorem zl4 : ((Str.ofString "NoText" : Str) == ("__debug__" : Str)) = false := by decide +kernel
theorem zl5 : ((Str.ofString "NoWorld" : Str) == ("__debug__" : Str)) = false := by decide +kernel
theorem zl6 : ((Str.ofString "TooMany" : Str) == ("__debug__" : Str)) = false := by decide +kernel
theorem zl7 : ((Str.ofString "ValueError" : Str) == ("__debug__" : Str)) = false := by decide +kernel
theorem zl8 : (Str.ofString "ValueError" : Str) ≠ "__name__" := by decide +kernel
theorem zl9 : ((Str.ofString "_law_e" : Str) == ("__debug__" : Str)) = false := by decide +kernel
theorem zma : ((Str.ofString "_law_e" : Str) == ("__classdict__" : Str)) = false := by decide +kernel
theorem bt_ValueError : bootBuiltins "ValueError" = some (.type "ValueError") := by decide +kernel
structure Xs (K : PySem.W.Frag) (mg : Str → Option Value) (C : Addr) (fe : Addr) (ds : List Addr) : Prop where
 look : ExcLook K C
 ve : PySem.W.kitOne K (.ref C) (.type "ValueError") = some true
 few : PySem.W.kitOne K (.ref C) (.ref fe) = some true
 oth : PySem.W.kitAny K (.ref C) (ds.map Value.ref) = some false
section
variable {P : Program} {w : World} {K : PySem.W.Frag} {mg : Str → Option Value} {base : Heap}
abbrev s_law_just : Stmt := top 44
theorem zmb : FnScope ["_law_e"] ["_law_e"] (defScope s_law_just) := ⟨rfl, rfl, rfl, by decide +kernel, rfl, by decide +kernel, by decide +kernel⟩
theorem zmc : (defScope s_law_just).names.lookup (Str.ofString "FewError") = some NameKind.globalImplicit := by decide +kernel
theorem zmd : (defScope s_law_just).names.lookup (Str.ofString "NoNaming") = some NameKind.globalImplicit := by decide +kernel
theorem zme : (defScope s_law_just).names.lookup (Str.ofString "NoPart") = some NameKind.globalImplicit := by decide +kernel
theorem zmf : (defScope s_law_just).names.lookup (Str.ofString "NoRow") = some NameKind.globalImplicit := by decide +kernel
theorem zmg : (defScope s_law_just).names.lookup (Str.ofString "NoSaying") = some NameKind.globalImplicit := by decide +kernel
theorem zmh : (defScope s_law_just).names.lookup (Str.ofString "NoSize") = some NameKind.globalImplicit := by decide +kernel
theorem zmi : (defScope s_law_just).names.lookup (Str.ofString "NoText") = some NameKind.globalImplicit := by decide +kernel
theorem zmj : (defScope s_law_just).names.lookup (Str.ofString "NoWorld") = some NameKind.globalImplicit := by decide +kernel
theorem zmk : (defScope s_law_just).names.lookup (Str.ofString "TooMany") = some NameKind.globalImplicit := by decide +kernel
theorem zml : (defScope s_law_just).names.lookup (Str.ofString "ValueError") = some NameKind.globalImplicit := by decide +kernel
theorem zmm : (defScope s_law_just).names.lookup (Str.ofString "_law_e") = some NameKind.local := by decide +kernel
theorem zmn : (defScope s_law_just).names.lookup (Str.ofString "isinstance") = some NameKind.globalImplicit := by decide +kernel
def spJust (C : Addr) : Sp := fun vs H Q _ => ∃ a, vs = [.ref a] ∧ H a = some (ExcO C a) ∧ ∀ H', Same H H' → Q (.bl true) H'
theorem ok_just {C fe x1 x2 x3 x4 x5 x6 x7 x8 : Addr} (F : FunAt K mg "_law_just" s_law_just ["_law_e"]) (Z : Bl mg) (n_ValueError : mg "ValueError" = none) (T : Xs K mg C fe [x1, x2, x3, x4, x5, x6, x7, x8])
  (g_FewError : mg "FewError" = some (.ref fe)) (g_NoNaming : mg "NoNaming" = some (.ref x1)) (g_NoPart : mg "NoPart" = some (.ref x2)) (g_NoRow : mg "NoRow" = some (.ref x3)) (g_NoSaying : mg "NoSaying" = some (.ref x4)) (g_NoSize : mg "NoSize" = some (.ref x5)) (g_NoText : mg "NoText" = some (.ref x6)) (g_NoWorld : mg "NoWorld" = some (.ref x7)) (g_TooMany : mg "TooMany" = some (.ref x8)) :
  DefU P w K mg base "_law_just" 1 ["_law_e"] (spJust C) := by
 have SC := zmb
 have r_FewError : RelV (.ref fe) (.ref fe) := rfl
 have r_NoNaming : RelV (.ref x1) (.ref x1) := rfl
 have r_NoPart : RelV (.ref x2) (.ref x2) := rfl
 have r_NoRow : RelV (.ref x3) (.ref x3) := rfl
 have r_NoSaying : RelV (.ref x4) (.ref x4) := rfl
 have r_NoSize : RelV (.ref x5) (.ref x5) := rfl
 have r_NoText : RelV (.ref x6) (.ref x6) := rfl
 have r_NoWorld : RelV (.ref x7) (.ref x7) := rfl
 have r_TooMany : RelV (.ref x8) (.ref x8) := rfl
 refine F.mkU (k := 0) zmb (fun vs H Q E h => ?_) (fun f cdv A outer s H vs Q E hr h => ?_)
 ·obtain ⟨a, rfl, _⟩ := h
  rfl
 ·obtain ⟨a, rfl, ha, q⟩ := h
  refine' ⟨_, ?derivation, ?_⟩
  case derivation =>
   refine' pss_cons ?ka ?kb
   case ka =>
    refine' ps_if ?kc ?kd pss_nil
    case kc =>
     refine' PW.pt ?ke
     case ke =>
      refine' pw_or ?kf ?kg
      case kf =>
       refine' pt_not ?kh
       case kh =>
        refine' pt_val ?ki ?kj
        case ki =>
         refine' pe_callB (hn := zd9) (hdb := zd8) ?kk ?kl ?km ?kn ?ko ?kp ?kq
         case kk => exact call_isiX
         case kl => exact zmn
         case km => exact Z.n_isinstance
         case kn => exact bt_isinstance
         case ko =>
          refine' pa_cons ?kr ?ks ?kt
          case kr => exact (pq 0 (visL zmm) zl9 zma)
          case ks =>
           refine' pa_cons ?ku pa_nil ?kv
           case ku =>
            refine' pe_bltn (v := V.ty "ValueError") (hn := zl8) (hd := zl7) ?kw ?kx ?ky ?kz
            case kw => exact zml
            case kx => exact n_ValueError
            case ky => exact bt_ValueError
            case kz => exact rfl
           case kv => rfl
          case kt => rfl
         case kp => rfl
         case kq => rfl
        case kj => intro _; rfl
      case kg =>
       refine' pw_or1 ?kba
       case kba =>
        refine' pt_not ?kbb
        case kbb =>
         refine' pt_val ?kbc ?kbd
         case kbc =>
          refine' pe_callB (hn := zd9) (hdb := zd8) ?kbe ?kbf ?kbg ?kbh ?kbi ?kbj ?kbk
          case kbe => exact call_isiX
          case kbf => exact zmn
          case kbg => exact Z.n_isinstance
          case kbh => exact bt_isinstance
          case kbi =>
           refine' pa_cons ?kbl ?kbm ?kbn
           case kbl => exact (pq 0 (visL zmm) zl9 zma)
           case kbm =>
            refine' pa_cons ?kbo pa_nil ?kbp
            case kbo =>
             refine' pe_glob (hd := zly) ?kbq ?kbr ?kbs
             case kbq => exact zmc
             case kbr => exact g_FewError
             case kbs => exact r_FewError
            case kbp => rfl
           case kbn => rfl
          case kbj => rfl
          case kbk => rfl
         case kbd => intro _; rfl
    case kd =>
     refine' pss_one ?kbt
     case kbt =>
      refine' ps_ret ?kbu
      case kbu => exact pe_bl
   case kb =>
    refine' pss_one ?kbv
    case kbv =>
     refine' ps_ret ?kbw
     case kbw =>
      refine' pe_not ?kbx
      case kbx =>
       refine' pe_callB (hn := zd9) (hdb := zd8) ?kby ?kbz ?kca ?kcb ?kcc ?kcd ?kce
       case kby => exact call_isiXt
       case kbz => exact zmn
       case kca => exact Z.n_isinstance
       case kcb => exact bt_isinstance
       case kcc =>
        refine' pa_cons ?kcf ?kcg ?kch
        case kcf => exact (pq 0 (visL zmm) zl9 zma)
        case kcg =>
         refine' pa_cons ?kci pa_nil ?kcj
         case kci =>
          refine' pe_tup ?kck
          case kck =>
           refine' pa_cons ?kcl ?kcm ?kcn
           case kcl =>
            refine' pe_glob (hd := zlz) ?kco ?kcp ?kcq
            case kco => exact zmd
            case kcp => exact g_NoNaming
            case kcq => exact r_NoNaming
           case kcm =>
            refine' pa_cons ?kcr ?kcs ?kct
            case kcr =>
             refine' pe_glob (hd := zl0) ?kcu ?kcv ?kcw
             case kcu => exact zme
             case kcv => exact g_NoPart
             case kcw => exact r_NoPart
            case kcs =>
             refine' pa_cons ?kcx ?kcy ?kcz
             case kcx =>
              refine' pe_glob (hd := zl1) ?kda ?kdb ?kdc
              case kda => exact zmf
              case kdb => exact g_NoRow
              case kdc => exact r_NoRow
             case kcy =>
              refine' pa_cons ?kdd ?kde ?kdf
              case kdd =>
               refine' pe_glob (hd := zl2) ?kdg ?kdh ?kdi
               case kdg => exact zmg
               case kdh => exact g_NoSaying
               case kdi => exact r_NoSaying
              case kde =>
               refine' pa_cons ?kdj ?kdk ?kdl
               case kdj =>
                refine' pe_glob (hd := zl3) ?kdm ?kdn ?kdo
                case kdm => exact zmh
                case kdn => exact g_NoSize
                case kdo => exact r_NoSize
               case kdk =>
                refine' pa_cons ?kdp ?kdq ?kdr
                case kdp =>
                 refine' pe_glob (hd := zl4) ?kds ?kdt ?kdu
                 case kds => exact zmi
                 case kdt => exact g_NoText
                 case kdu => exact r_NoText
                case kdq =>
                 refine' pa_cons ?kdv ?kdw ?kdx
                 case kdv =>
                  refine' pe_glob (hd := zl5) ?kdy ?kdz ?kea
                  case kdy => exact zmj
                  case kdz => exact g_NoWorld
                  case kea => exact r_NoWorld
                 case kdw =>
                  refine' pa_cons ?keb pa_nil ?kec
                  case keb =>
                   refine' pe_glob (hd := zl6) ?ked ?kee ?kef
                   case ked => exact zmk
                   case kee => exact g_TooMany
                   case kef => exact r_TooMany
                  case kec => rfl
                 case kdx => rfl
                case kdr => rfl
               case kdl => rfl
              case kdf => rfl
             case kcz => rfl
            case kct => rfl
           case kcn => rfl
         case kcj => rfl
        case kch => rfl
       case kcd => rfl
       case kce => rfl
  refine ⟨_, rfl, a, C, _, _, true, rfl, rfl, ha, T.look, T.ve, true, rfl, iteF ?_⟩
  refine ⟨_, rfl, a, C, _, _, true, rfl, rfl, ha, T.look, T.few, true, rfl, iteF ?_⟩
  refine ⟨_, rfl, by show 8 ≤ sizeLine; decide, fun t ht => ?_⟩
  have st := same_new ht (.tup [.ref x1, .ref x2, .ref x3, .ref x4, .ref x5, .ref x6, .ref x7, .ref x8])
  exact ⟨a, C, t, [x1, x2, x3, x4, x5, x6, x7, x8], false, rfl, upd_same, st _ _ ha, T.look, T.oth, _, rfl, q _ st⟩
end
end FewE

set_option Elab.async false
set_option linter.all false
set_option maxRecDepth 100000
set_option maxHeartbeats 1000000
namespace FewE
open PySem L2 Few
theorem zmo : ((Str.ofString "Signs" : Str) == ("__debug__" : Str)) = false := by decide +kernel
theorem zmp : ((Str.ofString "_law_just" : Str) == ("__debug__" : Str)) = false := by decide +kernel
theorem zmq : ((Str.ofString "_law_told_here" : Str) == ("__debug__" : Str)) = false := by decide +kernel
theorem zmr : ((Str.ofString "_law_told_here" : Str) == ("__classdict__" : Str)) = false := by decide +kernel
theorem book_keep {H H' : Hp} {v1 v2 v3 : V} (d1 : Dat 1 H v1) (d2 : Dat 3 H v2) (d3 : Dat 3 H v3) (k : Keep H H') : BookV H' v1 v2 v3 ↔ BookV H v1 v2 v3 := by
 have e1 := d1.sh.rowsK k
 have e2 := d2.sh.rowsK k
 have e3 := d3.sh.rowsK k
 constructor
 ·rintro ⟨ks, xs, ys, ns, ms, b⟩
  have r2 : rowOf H v2 = some xs := by rw [← e2]; exact b.r2
  have r3 : rowOf H v3 = some ys := by rw [← e3]; exact b.r3
  exact ⟨ks, xs, ys, ns, ms, ⟨by rw [← e1]; exact b.kinds.1, b.kinds.2⟩, r2, r3, b.len, b.ties.imp fun x n hx ⟨ps, h⟩ => ⟨ps, (tie_keep (d2.2 _ r2 x hx) k).mp h⟩, b.funs.imp fun x n hx ⟨ps, kd, h⟩ => ⟨ps, kd, (fun_keep (d3.2 _ r3 x hx) k).mp h⟩, b.apart⟩
 ·rintro ⟨ks, xs, ys, ns, ms, b⟩
  exact ⟨ks, xs, ys, ns, ms, ⟨by rw [e1]; exact b.kinds.1, b.kinds.2⟩, by rw [e2]; exact b.r2, by rw [e3]; exact b.r3, b.len, b.ties.imp fun x n hx ⟨ps, h⟩ => ⟨ps, (tie_keep (d2.2 _ b.r2 x hx) k).mpr h⟩, b.funs.imp fun x n hx ⟨ps, kd, h⟩ => ⟨ps, kd, (fun_keep (d3.2 _ b.r3 x hx) k).mpr h⟩, b.apart⟩
theorem ix_tupK {X : Cx} (K : PySem.W.Frag) (h : X.K = K) : IxR X (rIxT K) := h ▸ ix_tup
def EcT (CN : Addr) (H : Hp) (v1 v2 v3 : V) : XK := fun cls _ H1 => cls = .ref CN ∧ Same H H1 ∧ ¬ BookV H v1 v2 v3
section
variable {P : Program} {w : World} {K : PySem.W.Frag} {mg : Str → Option Value} {base : Heap}
abbrev s_law_told : Stmt := top 45
theorem zms : FnScope ["_law_book_here", "_law_told_here", "_law_e"] ["_law_book_here"] (defScope s_law_told) := ⟨rfl, rfl, rfl, by decide +kernel, rfl, by decide +kernel, by decide +kernel⟩
theorem zmt : (defScope s_law_told).names.lookup (Str.ofString "NoSigns") = some NameKind.globalImplicit := by decide +kernel
theorem zmu : (defScope s_law_told).names.lookup (Str.ofString "Signs") = some NameKind.globalImplicit := by decide +kernel
theorem zmv : (defScope s_law_told).names.lookup (Str.ofString "_law_book_here") = some NameKind.local := by decide +kernel
theorem zmw : (defScope s_law_told).names.lookup (Str.ofString "_law_e") = some NameKind.local := by decide +kernel
theorem zmx : (defScope s_law_told).names.lookup (Str.ofString "_law_just") = some NameKind.globalImplicit := by decide +kernel
theorem zmy : (defScope s_law_told).names.lookup (Str.ofString "_law_told_here") = some NameKind.local := by decide +kernel
def spTold : Sp := fun vs H Q _ => ∃ (B : Addr) (v1 v2 v3 : V), vs = [.ref B] ∧ H B = some (.tup [v1, v2, v3]) ∧ Dat 1 H v1 ∧ Dat 3 H v2 ∧ Dat 3 H v3 ∧ ∀ H', Same H H' → Q (.int (if tr (BookV H v1 v2 v3) = true then 1 else 0)) H'
theorem ok_told {C CN fi : Addr} {fdi : FuncData} (F : FunAt K mg "_law_told" s_law_told ["_law_book_here"]) (Z : Bl mg) (O_NoSigns : ExcCls K mg "NoSigns" CN) (D_law_just : DefU P w K mg base "_law_just" 1 ["_law_e"] (spJust CN))
  (M_Signs : Mk K C fi) (G_Signs : FnOk P w K mg base (CX1 P w) 5 fi fdi ["self", "kinds", "ties", "functions"] (spInit C CN)) (m_Signs : mg "Signs" = some (.ref C)) (b_Signs : Binds K fdi ["self", "kinds", "ties", "functions"] []) :
  Def P w K mg base "_law_told" 7 ["_law_book_here"] spTold := by
 have SC := zms
 refine F.mk' (k := 6) zms (fun vs H Q E h => ?_) (fun f cdv A outer s H vs Q E hr h => ?_)
 ·obtain ⟨B, v1, v2, v3, rfl, _⟩ := h
  rfl
 ·obtain ⟨B, v1, v2, v3, rfl, hB, d1, d2, d3, q⟩ := h
  refine' ⟨_, ?derivation, ?_⟩
  case derivation =>
   refine' pss_cons ?ka ?kb
   case ka =>
    refine' ps_set (i := 1) (x := Str.ofString "_law_told_here") ?kc ?kd ?ke ?kf ?kg ?kh
    case kc => exact SC.nd
    case kd => exact rfl
    case ke => exact (Or.inl zmy)
    case kf => exact pe_int
    case kg => rfl
    case kh => exact .inl rfl
   case kb =>
    refine' pss_cons ?ki ?kj
    case ki =>
     refine' ps_tryAs (Ec := (EcT CN H v1 v2 v3)) (i := 2) (n := Str.ofString "_law_e") (hdb := zdw) ?kk ?kl ?km ?kn ?ko ?kp ?kq
     case kk => exact O_NoSigns
     case kl => exact zmt
     case km => exact SC.nd
     case kn => exact rfl
     case ko => exact zmw
     case kp =>
      intro _
      refine' pss_one ?kr
      case kr =>
       refine' ps_expr ?ks ?kt
       case ks =>
        refine' pe_make (hdb := zmo) ?ku ?kv ?kw ?kx ?ky ?kz ?kba ?kbb ?kbc ?kbd ?kbe
        case ku => exact M_Signs
        case kv => exact G_Signs
        case kw => exact hr
        case kx => exact zmu
        case ky => exact m_Signs
        case kz => exact b_Signs
        case kba => exact .nil
        case kbb => exact (passes1 (framed_pnd framed_of))
        case kbc =>
         refine' pa_cons ?kbf ?kbg ?kbh
         case kbf =>
          refine' pe_ix ?kbi ?kbj ?kbk ?kbl
          case kbi => exact (ix_tupK K rfl)
          case kbj => exact (pq 0 (visL zmv) zk8 zk9)
          case kbk => exact pe_int
          case kbl =>
           intro _ _
           exact rfl
         case kbg =>
          refine' pa_cons ?kbm ?kbn ?kbo
          case kbm =>
           refine' pe_ix ?kbp ?kbq ?kbr ?kbs
           case kbp => exact (ix_tupK K rfl)
           case kbq => exact (pq 0 (visL zmv) zk8 zk9)
           case kbr => exact pe_int
           case kbs =>
            intro _ _
            exact rfl
          case kbn =>
           refine' pa_cons ?kbt pa_nil ?kbu
           case kbt =>
            refine' pe_ix ?kbv ?kbw ?kbx ?kby
            case kbv => exact (ix_tupK K rfl)
            case kbw => exact (pq 0 (visL zmv) zk8 zk9)
            case kbx => exact pe_int
            case kby =>
             intro _ _
             exact rfl
           case kbu => rfl
          case kbo => rfl
         case kbh => rfl
        case kbd => rfl
        case kbe => rfl
       case kt => rfl
     case kq =>
      intro _ _
      refine' pss_one ?kbz
      case kbz =>
       refine' ps_set (i := 1) (x := Str.ofString "_law_told_here") ?kca ?kcb ?kcc ?kcd ?kce ?kcf
       case kca => exact SC.nd
       case kcb => exact rfl
       case kcc => exact (Or.inl zmy)
       case kcd =>
        refine' pe_ifExp ?kcg ?kch ?kci
        case kcg =>
         refine' pt_val ?kcj ?kck
         case kcj =>
          refine' pe_defU (hdb := zmp) ?kcl ?kcm ?kcn ?kco ?kcp ?kcq
          case kcl => exact D_law_just
          case kcm => exact (RoomU.mark (RoomU.mono (Room.u hr) (by decide)) _)
          case kcn => exact zmx
          case kco =>
           refine' pa_cons ?kcr pa_nil ?kcs
           case kcr => exact (pq 2 (visL zmw) zl9 zma)
           case kcs => rfl
          case kcp => rfl
          case kcq => rfl
         case kck => intro _; rfl
        case kch => exact pe_int
        case kci => exact pe_int
       case kce => rfl
       case kcf => exact .inl rfl
    case kj =>
     refine' pss_one ?kct
     case kct =>
      refine' ps_ret ?kcu
      case kcu => exact (pq 1 (visL zmy) zmq zmr)
  refine ⟨?_, ?_⟩
  ·refine ⟨_, rfl, B, _, 0, v1, rfl, rfl, SqT.of hB, at0, _, rfl, B, _, 1, v2, rfl, rfl, SqT.of hB, at1, _, rfl, B, _, 2, v3, rfl, rfl, SqT.of hB, at2, fun x dx hx hdx hne => ?_⟩
   have s1 : Same H (upd (upd H dx (.own x)) x (.ins C dx [])) := (same_new hdx _).trans (same_new (by rw [upd_ne (Ne.symm hne)]; exact hx) _)
   have nx : ∀ b o, H b = some o → b ≠ x := fun b o e => ne_of_none e hx
   have sx : ∀ {H'}, SameX x (upd (upd H dx (.own x)) x (.ins C dx [])) H' → Same H H' := fun s b o e => s b o (nx b o e) (s1 b o e)
   have bk := book_keep d1 d2 d3 (.of s1)
   refine ⟨x, dx, v1, v2, v3, rfl, upd_same, d1.same s1, d2.same s1, d3.same s1, fun hb H' s' => ⟨rfl, _, rfl, ?_⟩, fun hb H' s' => ⟨rfl, sx s', fun z => hb (bk.mpr z)⟩⟩
   have := q H' (sx s')
   rw [tr_of (bk.mp hb)] at this
   exact this
  ·rintro cls H1 σ1 ⟨rfl, s1, hb⟩ hl
   refine ⟨rfl, fun a ha => ?_⟩
   obtain ⟨o1, o2, o3, rfl⟩ : ∃ o1 o2 o3, σ1 = [o1, o2, o3] := by
    match σ1, hl with
    | [o1, o2, o3], _ => exact ⟨o1, o2, o3, rfl⟩
   have sa := same_new ha (ExcO CN a)
   refine ⟨_, rfl, a, rfl, upd_same, fun H2 s2 => ⟨true, rfl, ?_⟩⟩
   refine ⟨_, rfl, ?_⟩
   have := q H2 ((s1.trans sa).trans s2)
   rw [tr_no hb] at this
   exact this
end
end FewE

set_option Elab.async false
set_option linter.all false
set_option maxRecDepth 100000
set_option maxHeartbeats 1000000
namespace FewE
open PySem L2 Few
theorem zmz : ((Str.ofString "_law_before" : Str) == ("__debug__" : Str)) = false := by decide +kernel
theorem zm0 : ((Str.ofString "_law_before" : Str) == ("__classdict__" : Str)) = false := by decide +kernel
theorem zm1 : ((Str.ofString "_law_book" : Str) == ("__debug__" : Str)) = false := by decide +kernel
theorem zm2 : ((Str.ofString "_law_cell" : Str) == ("__debug__" : Str)) = false := by decide +kernel
theorem zm3 : ((Str.ofString "_law_is_book" : Str) == ("__debug__" : Str)) = false := by decide +kernel
theorem zm4 : ((Str.ofString "_law_number" : Str) == ("__debug__" : Str)) = false := by decide +kernel
theorem zm5 : ((Str.ofString "_law_number" : Str) == ("__classdict__" : Str)) = false := by decide +kernel
theorem zm6 : ((Str.ofString "_law_pot" : Str) == ("__debug__" : Str)) = false := by decide +kernel
theorem zm7 : ((Str.ofString "_law_spoilt" : Str) == ("__debug__" : Str)) = false := by decide +kernel
theorem zm8 : ((Str.ofString "_law_told" : Str) == ("__debug__" : Str)) = false := by decide +kernel
theorem zm9 : ((Str.ofString "int" : Str) == ("__debug__" : Str)) = false := by decide +kernel
theorem zna : (Str.ofString "int" : Str) ≠ "__name__" := by decide +kernel
theorem znb : ((Str.ofString "repr" : Str) == ("__debug__" : Str)) = false := by decide +kernel
theorem znc : (Str.ofString "repr" : Str) ≠ "__name__" := by decide +kernel
theorem Th.nm {R : Addr → Prop} {H : Hp} {z : Str} (h : isNm z) : ThR R H 0 12 (.str z) := ThR.ofStr (fun c hc => by have := h.2.2 c hc; omega) (by have := h.2.1; simpa using this)
theorem Th.nms {R : Addr → Prop} {H : Hp} {ws : List Str} (h : ∀ k ∈ ws, isNm k) : ∀ x ∈ ws.map V.str, ThR R H 0 12 x := fun x hx => by
 obtain ⟨k, hk, rfl⟩ := List.mem_map.mp hx
 exact Th.nm (h k hk)
theorem drawn {p : Addr} {H : Hp} {v : V} {ks : List Str} {ts : List TieR} {fs : List FunR} (r : RdV (· ≠ p) H v (bookL ks ts fs)) (ok : BookOk ks ts fs) : ∃ B v1 v2 v3, v = .ref B ∧ BkAt p H B v1 v2 v3 := by
 obtain ⟨B, bx, rfl, nB, hB, hbx⟩ := r.tuple_inv
 obtain ⟨kv, tv, fv, rfl, hk, ht, hf⟩ := hbx.three
 obtain ⟨kA, kx, rfl, nk, hkA, hkx⟩ := hk.list_inv
 obtain rfl := hkx.strs_inv
 obtain ⟨tA, tx, rfl, nt, htA, htx⟩ := ht.list_inv
 obtain ⟨fA, fx, rfl, nf, hfA, hfx⟩ := hf.list_inv
 have sl := ok.sl
 have k4 := ok.k4
 refine ⟨B, _, _, _, rfl, hB, nB, ?_, ?_, ?_, fun b ys e1 e2 => by cases e1; rw [hkA] at e2; cases e2⟩
 ·exact ThR.row' nk (.inl hkA) (Th.nms ok.kn2) (m := 4) (by rw [List.length_map]; exact k4) (by decide) (by decide)
 ·refine ThR.row' nt (.inl htA) (n := 2) (W := 100) (m := 8) (fun x hx => ?_) (by rw [htx.length, List.length_map]; omega) (by decide) (by decide)
  obtain ⟨i, hi⟩ := List.getElem?_of_mem hx
  obtain ⟨d, hd, rd⟩ := htx.getV hi
  rw [List.getElem?_map] at hd
  obtain ⟨t, ht', rfl⟩ := Option.map_eq_some_iff.mp hd
  obtain ⟨o1, o2, o3⟩ := ok.tn t (List.mem_of_getElem? ht')
  obtain ⟨q, qx, rfl, nq, hq, hqx⟩ := rd.tuple_inv
  obtain ⟨a, b, rfl, ha, hb⟩ := hqx.two
  obtain rfl := ha.str_inv
  obtain ⟨c, cx, rfl, nc, hc, hcx⟩ := hb.list_inv
  obtain rfl := hcx.strs_inv
  refine ThR.row' nq (.inr hq) (n := 1) (W := 26) (m := 2) (fun y hy => ?_) (by simp) (by decide) (by decide)
  simp only [List.mem_cons, List.not_mem_nil, or_false] at hy
  rcases hy with rfl | rfl
  ·exact (Th.nm o1.1).mono (by decide) (by decide)
  ·exact ThR.row' nc (.inl hc) (Th.nms fun k hk => ok.kn2 k (o3 k hk)) (m := 2) (by rw [List.length_map]; exact o2) (by decide) (by decide)
 ·refine ThR.row' nf (.inl hfA) (n := 2) (W := 100) (m := 8) (fun x hx => ?_) (by rw [hfx.length, List.length_map]; omega) (by decide) (by decide)
  obtain ⟨i, hi⟩ := List.getElem?_of_mem hx
  obtain ⟨d, hd, rd⟩ := hfx.getV hi
  rw [List.getElem?_map] at hd
  obtain ⟨t, ht', rfl⟩ := Option.map_eq_some_iff.mp hd
  obtain ⟨o1, o2, o3, o4⟩ := ok.fn t (List.mem_of_getElem? ht')
  obtain ⟨q, qx, rfl, nq, hq, hqx⟩ := rd.tuple_inv
  obtain ⟨a, b, e, rfl, ha, hb, he⟩ := hqx.three
  obtain rfl := ha.str_inv
  obtain rfl := he.str_inv
  obtain ⟨c, cx, rfl, nc, hc, hcx⟩ := hb.list_inv
  obtain rfl := hcx.strs_inv
  refine ThR.row' nq (.inr hq) (n := 1) (W := 26) (m := 3) (fun y hy => ?_) (by simp) (by decide) (by decide)
  simp only [List.mem_cons, List.not_mem_nil, or_false] at hy
  rcases hy with rfl | rfl | rfl
  ·exact (Th.nm o1.1).mono (by decide) (by decide)
  ·exact ThR.row' nc (.inl hc) (Th.nms fun k hk => ok.kn2 k (o3 k hk)) (m := 2) (by rw [List.length_map]; exact o2) (by decide) (by decide)
  ·exact (Th.nm (ok.kn2 _ o4)).mono (by decide) (by decide)
theorem BkAt.dats {p : Addr} {H : Hp} {B : Addr} {v1 v2 v3 : V} (h : BkAt p H B v1 v2 v3) : Dat 1 H v1 ∧ Dat 3 H v2 ∧ Dat 3 H v3 := ⟨h.t1.dat (by decide) 1, h.t2.dat (by decide) 3, h.t3.dat (by decide) 3⟩
theorem BkAt.all {p : Addr} {H : Hp} {B : Addr} {v1 v2 v3 : V} (h : BkAt p H B v1 v2 v3) : Th p H 6 90000 (.ref B) := by
 refine ThR.row' h.nb (.inr h.tup) (n := 5) (W := 27000) (m := 3) (fun y hy => ?_) (by simp) (by decide) (by decide)
 simp only [List.mem_cons, List.not_mem_nil, or_false] at hy
 rcases hy with rfl | rfl | rfl
 ·exact h.t1.mono (by decide) (by decide)
 ·exact h.t2
 ·exact h.t3
section
variable {P : Program} {w : World} {K : PySem.W.Frag} {mg : Str → Option Value} {base : Heap}
abbrev s_law : Stmt := top 46
theorem znd : FnScope ["_law_script", "_law_number", "_law_pot_here", "_law_book_here", "_law_k", "_law_before"] ["_law_script"] (defScope s_law) := ⟨rfl, rfl, rfl, by decide +kernel, rfl, by decide +kernel, by decide +kernel⟩
theorem zne : (defScope s_law).names.lookup (Str.ofString "_law_before") = some NameKind.local := by decide +kernel
theorem znf : (defScope s_law).names.lookup (Str.ofString "_law_book") = some NameKind.globalImplicit := by decide +kernel
theorem zng : (defScope s_law).names.lookup (Str.ofString "_law_book_here") = some NameKind.local := by decide +kernel
theorem znh : (defScope s_law).names.lookup (Str.ofString "_law_cell") = some NameKind.globalImplicit := by decide +kernel
theorem zni : (defScope s_law).names.lookup (Str.ofString "_law_draw") = some NameKind.globalImplicit := by decide +kernel
theorem znj : (defScope s_law).names.lookup (Str.ofString "_law_is_book") = some NameKind.globalImplicit := by decide +kernel
theorem znk : (defScope s_law).names.lookup (Str.ofString "_law_k") = some NameKind.local := by decide +kernel
theorem znl : (defScope s_law).names.lookup (Str.ofString "_law_number") = some NameKind.local := by decide +kernel
theorem znm : (defScope s_law).names.lookup (Str.ofString "_law_pot") = some NameKind.globalImplicit := by decide +kernel
theorem znn : (defScope s_law).names.lookup (Str.ofString "_law_pot_here") = some NameKind.local := by decide +kernel
theorem zno : (defScope s_law).names.lookup (Str.ofString "_law_script") = some NameKind.local := by decide +kernel
theorem znp : (defScope s_law).names.lookup (Str.ofString "_law_spoilt") = some NameKind.globalImplicit := by decide +kernel
theorem znq : (defScope s_law).names.lookup (Str.ofString "_law_told") = some NameKind.globalImplicit := by decide +kernel
theorem znr : (defScope s_law).names.lookup (Str.ofString "int") = some NameKind.globalImplicit := by decide +kernel
theorem zns : (defScope s_law).names.lookup (Str.ofString "range") = some NameKind.globalImplicit := by decide +kernel
theorem znt : (defScope s_law).names.lookup (Str.ofString "repr") = some NameKind.globalImplicit := by decide +kernel
def spLaw (K : PySem.W.Frag) : Sp := fun vs H Q _ => ∃ (a : Addr) (ns : List Int), vs = [.ref a] ∧ SqL K H a (ns.map V.int) ∧ ns.length ≤ 63 ∧ ∀ H', Q (.bl true) H'
theorem ok_law {fL : Addr} {fdL : FuncData} (F : Fun K "law" "law" s_law fL fdL) (Z : Bl mg) (D_law_cell : Def P w K mg base "_law_cell" 1 ["_law_script", "_law_k"] (spCell (K := K))) (D_law_pot : Def P w K mg base "_law_pot" 1 ["_law_cell_here"] spPot)
  (D_law_draw : Def P w K mg base "_law_draw" 1 ["_law_pot_here", "_law_many"] spDraw) (D_law_book : Def P w K mg base "_law_book" 3 ["_law_pot_here", "_law_most_kinds", "_law_most_signs"] spBook) (D_law_is_book : DefE P w K mg base "_law_is_book" 3 ["_law_kinds", "_law_ties", "_law_functions"] spIsBook)
  (D_law_spoilt : Def P w K mg base "_law_spoilt" 4 ["_law_pot_here", "_law_book_here"] spSpoilt) (D_law_told : Def P w K mg base "_law_told" 7 ["_law_book_here"] spTold) :
  FnOk P w K mg base CX0 8 fL fdL ["_law_script"] (spLaw K) := by
 have SC := znd
 refine F.ok (k := 7) znd (fun vs H Q E h => ?_) (fun cdv A outer s H vs Q E hr h => ?_)
 ·obtain ⟨a, ns, rfl, _⟩ := h
  rfl
 ·obtain ⟨aS, ns, rfl, hS, hns, q⟩ := h
  refine' ⟨_, ?derivation, ?_⟩
  case derivation =>
   refine' pss_cons ?ka ?kb
   case ka =>
    refine' ps_for ?kc ?kd ?ke ?kf ?kg ?kh
    case kc => exact PassesOwn.never
    case kd => exact rfl
    case ke =>
     refine' pi_list ?ki
     case ki =>
      refine' pe_op ?kj ?kk ?kl
      case kj => exact op_cat
      case kk =>
       refine' pe_lst ?km
       case km =>
        refine' pa_cons ?kn pa_nil ?ko
        case kn =>
         refine' pe_def (hdb := zm2) ?kp ?kq ?kr ?ks ?kt ?ku
         case kp => exact D_law_cell
         case kq => exact (hr.mono (by decide))
         case kr => exact znh
         case ks =>
          refine' pa_cons ?kv ?kw ?kx
          case kv => exact (pq 0 (visL zno) zbp zbq)
          case kw =>
           refine' pa_cons ?ky pa_nil ?kz
           case ky => exact pe_int
           case kz => rfl
          case kx => rfl
         case kt => rfl
         case ku => rfl
        case ko => rfl
      case kl =>
       refine' pe_slice ?kba ?kbb ?kbc ?kbd
       case kba => exact sl_list
       case kbb => exact (pq 0 (visL zno) zbp zbq)
       case kbc =>
        refine' po_some ?kbe
        case kbe => exact pe_int
       case kbd =>
        refine' po_some ?kbf
        case kbf => exact pe_int
    case kf =>
     refine' pg_name (i := 1) (x := Str.ofString "_law_number") ?kbg ?kbh ?kbi ?kbj
     case kbg => exact SC.nd
     case kbh => exact rfl
     case kbi => exact (Or.inl znl)
     case kbj => exact (.inl rfl)
    case kg =>
     refine' pss_cons ?kbk ?kbl
     case kbk =>
      refine' ps_set (i := 2) (x := Str.ofString "_law_pot_here") ?kbm ?kbn ?kbo ?kbp ?kbq ?kbr
      case kbm => exact SC.nd
      case kbn => exact rfl
      case kbo => exact (Or.inl znn)
      case kbp =>
       refine' pe_def (hdb := zm6) ?kbs ?kbt ?kbu ?kbv ?kbw ?kbx
       case kbs => exact D_law_pot
       case kbt => exact (hr.mono (by decide))
       case kbu => exact znm
       case kbv =>
        refine' pa_cons ?kby pa_nil ?kbz
        case kby => exact (pq 1 (visL znl) zm4 zm5)
        case kbz => rfl
       case kbw => rfl
       case kbx => rfl
      case kbq => rfl
      case kbr => exact .inl rfl
     case kbl =>
      refine' pss_cons ?kca ?kcb
      case kca =>
       refine' ps_set (i := 3) (x := Str.ofString "_law_book_here") ?kcc ?kcd ?kce ?kcf ?kcg ?kch
       case kcc => exact SC.nd
       case kcd => exact rfl
       case kce => exact (Or.inl zng)
       case kcf =>
        refine' pe_def (hdb := zm1) ?kci ?kcj ?kck ?kcl ?kcm ?kcn
        case kci => exact D_law_book
        case kcj => exact (hr.mono (by decide))
        case kck => exact znf
        case kcl =>
         refine' pa_cons ?kco ?kcp ?kcq
         case kco => exact (pq 2 (visL znn) zbn zbo)
         case kcp =>
          refine' pa_cons ?kcr ?kcs ?kct
          case kcr => exact pe_int
          case kcs =>
           refine' pa_cons ?kcu pa_nil ?kcv
           case kcu => exact pe_int
           case kcv => rfl
          case kct => rfl
         case kcq => rfl
        case kcm => rfl
        case kcn => rfl
       case kcg => rfl
       case kch => exact .inl rfl
      case kcb =>
       refine' pss_cons ?kcw ?kcx
       case kcw =>
        refine' ps_for ?kcy ?kcz ?kda ?kdb ?kdc ?kdd
        case kcy => exact PassesOwn.never
        case kcz => exact rfl
        case kda =>
         refine' pi_range1 ?kde ?kdf ?kdg ?kdh
         case kde => exact zns
         case kdf => exact Z.n_range
         case kdg =>
          refine' pa_cons ?kdi pa_nil ?kdj
          case kdi =>
           refine' pe_def (hdb := zbe) ?kdk ?kdl ?kdm ?kdn ?kdo ?kdp
           case kdk => exact D_law_draw
           case kdl => exact (hr.mono (by decide))
           case kdm => exact zni
           case kdn =>
            refine' pa_cons ?kdq ?kdr ?kds
            case kdq => exact (pq 2 (visL znn) zbn zbo)
            case kdr =>
             refine' pa_cons ?kdt pa_nil ?kdu
             case kdt => exact pe_int
             case kdu => rfl
            case kds => rfl
           case kdo => rfl
           case kdp => rfl
          case kdj => rfl
         case kdh => rfl
        case kdb =>
         refine' pg_name (i := 4) (x := Str.ofString "_law_k") ?kdv ?kdw ?kdx ?kdy
         case kdv => exact SC.nd
         case kdw => exact rfl
         case kdx => exact (Or.inl znk)
         case kdy => exact (.inl rfl)
        case kdc =>
         refine' pss_one ?kdz
         case kdz =>
          refine' ps_if ?kea ?keb pss_nil
          case kea =>
           refine' pt_val ?kec ?ked
           case kec =>
            refine' pe_defEN (hdb := zm3) ?kee ?kef ?keg ?keh ?kei ?kej
            case kee => exact D_law_is_book
            case kef => exact (hr.mono (by decide))
            case keg => exact znj
            case keh =>
             refine' pa_cons ?kek ?kel ?kem
             case kek =>
              refine' pe_ix ?ken ?keo ?kep ?keq
              case ken => exact ix_tup
              case keo => exact (pq 3 (visL zng) zk8 zk9)
              case kep => exact pe_int
              case keq =>
               intro _ _
               exact rfl
             case kel =>
              refine' pa_cons ?ker ?kes ?ket
              case ker =>
               refine' pe_ix ?keu ?kev ?kew ?kex
               case keu => exact ix_tup
               case kev => exact (pq 3 (visL zng) zk8 zk9)
               case kew => exact pe_int
               case kex =>
                intro _ _
                exact rfl
              case kes =>
               refine' pa_cons ?key pa_nil ?kez
               case key =>
                refine' pe_ix ?kfa ?kfb ?kfc ?kfd
                case kfa => exact ix_tup
                case kfb => exact (pq 3 (visL zng) zk8 zk9)
                case kfc => exact pe_int
                case kfd =>
                 intro _ _
                 exact rfl
               case kez => rfl
              case ket => rfl
             case kem => rfl
            case kei => rfl
            case kej => rfl
           case ked => intro _; rfl
          case keb =>
           refine' pss_one ?kfe
           case kfe =>
            refine' ps_set (i := 3) (x := Str.ofString "_law_book_here") ?kff ?kfg ?kfh ?kfi ?kfj ?kfk
            case kff => exact SC.nd
            case kfg => exact rfl
            case kfh => exact (Or.inl zng)
            case kfi =>
             refine' pe_def (hdb := zm7) ?kfl ?kfm ?kfn ?kfo ?kfp ?kfq
             case kfl => exact D_law_spoilt
             case kfm => exact (hr.mono (by decide))
             case kfn => exact znp
             case kfo =>
              refine' pa_cons ?kfr ?kfs ?kft
              case kfr => exact (pq 2 (visL znn) zbn zbo)
              case kfs =>
               refine' pa_cons ?kfu pa_nil ?kfv
               case kfu => exact (pq 3 (visL zng) zk8 zk9)
               case kfv => rfl
              case kft => rfl
             case kfp => rfl
             case kfq => rfl
            case kfj => rfl
            case kfk => exact .inl rfl
        case kdd => intro _; rfl
       case kcx =>
        refine' pss_cons ?kfw ?kfx
        case kfw =>
         refine' ps_set (i := 5) (x := Str.ofString "_law_before") ?kfy ?kfz ?kga ?kgb ?kgc ?kgd
         case kfy => exact SC.nd
         case kfz => exact rfl
         case kga => exact (Or.inl zne)
         case kgb =>
          refine' pe_callB (hn := znc) (hdb := znb) ?kge ?kgf ?kgg ?kgh ?kgi ?kgj ?kgk
          case kge => exact (call_reprX hr)
          case kgf => exact znt
          case kgg => exact Z.n_repr
          case kgh => exact bt_repr
          case kgi =>
           refine' pa_cons ?kgl pa_nil ?kgm
           case kgl => exact (pq 3 (visL zng) zk8 zk9)
           case kgm => rfl
          case kgj => rfl
          case kgk => rfl
         case kgc => rfl
         case kgd => exact .inl rfl
        case kfx =>
         refine' pss_one ?kgn
         case kgn =>
          refine' ps_if ?kgo ?kgp pss_nil
          case kgo =>
           refine' PW.pt ?kgq
           case kgq =>
            refine' pw_or ?kgr ?kgs
            case kgr =>
             refine' pt_cmpR ?kgt ?kgu ?kgv ?kgw
             case kgt => exact op_ne
             case kgu =>
              refine' pe_def (hdb := zm8) ?kgx ?kgy ?kgz ?kha ?khb ?khc
              case kgx => exact D_law_told
              case kgy => exact (hr.mono (by decide))
              case kgz => exact znq
              case kha =>
               refine' pa_cons ?khd pa_nil ?khe
               case khd => exact (pq 3 (visL zng) zk8 zk9)
               case khe => rfl
              case khb => rfl
              case khc => rfl
             case kgv =>
              refine' pe_callTy (hn := zna) (hdb := zm9) ?khf ?khg ?khh ?khi ?khj ?khk ?khl
              case khf => exact call_int1
              case khg => exact znr
              case khh => exact Z.n_int
              case khi => exact bt_int
              case khj =>
               refine' pa_cons ?khm pa_nil ?khn
               case khm =>
                refine' pe_defEN (hdb := zm3) ?kho ?khp ?khq ?khr ?khs ?kht
                case kho => exact D_law_is_book
                case khp => exact (hr.mono (by decide))
                case khq => exact znj
                case khr =>
                 refine' pa_cons ?khu ?khv ?khw
                 case khu =>
                  refine' pe_ix ?khx ?khy ?khz ?kia
                  case khx => exact ix_tup
                  case khy => exact (pq 3 (visL zng) zk8 zk9)
                  case khz => exact pe_int
                  case kia =>
                   intro _ _
                   exact rfl
                 case khv =>
                  refine' pa_cons ?kib ?kic ?kid
                  case kib =>
                   refine' pe_ix ?kie ?kif ?kig ?kih
                   case kie => exact ix_tup
                   case kif => exact (pq 3 (visL zng) zk8 zk9)
                   case kig => exact pe_int
                   case kih =>
                    intro _ _
                    exact rfl
                  case kic =>
                   refine' pa_cons ?kii pa_nil ?kij
                   case kii =>
                    refine' pe_ix ?kik ?kil ?kim ?kin
                    case kik => exact ix_tup
                    case kil => exact (pq 3 (visL zng) zk8 zk9)
                    case kim => exact pe_int
                    case kin =>
                     intro _ _
                     exact rfl
                   case kij => rfl
                  case kid => rfl
                 case khw => rfl
                case khs => rfl
                case kht => rfl
               case khn => rfl
              case khk => rfl
              case khl => rfl
             case kgw => exact (nomark _)
            case kgs =>
             refine' pw_or1 ?kio
             case kio =>
              refine' pt_cmpR ?kip ?kiq ?kir ?kis
              case kip => exact op_ne
              case kiq =>
               refine' pe_callB (hn := znc) (hdb := znb) ?kit ?kiu ?kiv ?kiw ?kix ?kiy ?kiz
               case kit => exact (call_reprX hr)
               case kiu => exact znt
               case kiv => exact Z.n_repr
               case kiw => exact bt_repr
               case kix =>
                refine' pa_cons ?kja pa_nil ?kjb
                case kja => exact (pq 3 (visL zng) zk8 zk9)
                case kjb => rfl
               case kiy => rfl
               case kiz => rfl
              case kir => exact (pq 5 (visL zne) zmz zm0)
              case kis => exact (nomark _)
          case kgp =>
           refine' pss_one ?kjc
           case kjc =>
            refine' ps_ret ?kjd
            case kjd => exact pe_bl
    case kh => intro _; rfl
   case kb =>
    refine' pss_one ?kje
    case kje =>
     refine' ps_ret ?kjf
     case kjf => exact pe_bl
  refine ⟨_, rfl, aS, ns, 0, rfl, hS, fun n0 => ?_⟩
  refine ⟨by show 1 ≤ sizeLine; decide, fun l1 hl1 => ?_⟩
  have s1 := same_new hl1 (.lst [.int n0])
  refine ⟨_, rfl, _, rfl, _, rfl, aS, _, rfl, s1.seq hS, fun l2 hl2 => ?_⟩
  have s2 := same_new hl2 (.lst (cutV (ns.map V.int) (some 1) (some 8)))
  have cl := cutV_length (ns.map V.int) (some 1) (some 8)
  rw [List.length_map] at cl
  refine ⟨l1, l2, _, _, rfl, rfl, s2 _ _ upd_same, upd_same, Nat.le_trans (show 1 + (cutV (ns.map V.int) (some 1) (some 8)).length ≤ 100 by omega) (by decide), fun L hL => ?_⟩
  generalize hxs : [V.int n0] ++ cutV (ns.map V.int) (some 1) (some 8) = xs
  have allI : ∀ y ∈ xs, ∃ z, y = V.int z := fun y hy => by
   rw [← hxs] at hy
   rcases List.mem_append.mp hy with hy | hy
   ·exact ⟨n0, List.mem_singleton.mp hy⟩
   ·obtain ⟨z, _, rfl⟩ := List.mem_map.mp (cutV_mem hy)
    exact ⟨z, rfl⟩
  have hLx : (upd (upd (upd H l1 (.lst [.int n0])) l2 (.lst (cutV (ns.map V.int) (some 1) (some 8)))) L (.lst xs)) L = some (.lst xs) := upd_same
  generalize (upd (upd (upd H l1 (.lst [.int n0])) l2 (.lst (cutV (ns.map V.int) (some 1) (some 8)))) L (.lst xs)) = HL at hLx
  refine ⟨L, rfl, ⟨_, SqL.of hLx⟩, for_list (K := K) (a := L) (xs := xs) (fun i σ H2 => ∃ v1 v2 v3 v4 v5, σ = [some (.ref aS), v1, v2, v3, v4, v5] ∧ Same HL H2)
   ⟨none, none, none, none, none, rfl, Same.refl _⟩ (fun i σ H2 _ ⟨_, _, _, _, _, _, z⟩ => SqL.of (z _ _ hLx)) ?_ ?_⟩
  case refine_2 =>
   rintro σ H2 ⟨v1, v2, v3, v4, v5, rfl, _⟩
   exact q H2
  rintro i y σ H2 hi ⟨v1, v2, v3, v4, v5, rfl, sL⟩
  obtain ⟨n, rfl⟩ := allI y (List.mem_of_getElem? hi)
  refine ⟨_, rfl, n, rfl, fun p H3 hp pot3 s3 => ?_⟩
  refine ⟨_, rfl, p, 4, 8, rfl, pot3, by decide, by decide, by decide, fun bv H4 ks ts fs rb ok _ _ W4 => ?_⟩
  have np3 : ∀ a, H3 a = none → a ≠ p := fun a e => by rintro rfl; obtain ⟨o, e2⟩ := pot3.some; rw [e] at e2; cases e2
  obtain ⟨B, w1, w2, w3, rfl, bk4⟩ := drawn (rb.mono (R' := (· ≠ p)) (fun a z => np3 a z) fun _ _ _ e => e) ok
  have hLp : HL p = none := sL.free hp
  have fin : ∀ {H9}, Went p H3 H9 → Same HL H9 := fun W b o e => W.same b o (ne_of_none e hLp) (s3 _ _ (sL _ _ e))
  refine ⟨_, rfl, p, _, rfl, W4.pot, by decide, by decide, fun r H5 a0 a1 hp5 s5 => ?_⟩
  have W5 := W4.mk1 hp5 s5
  refine ⟨r, rfl, by omega, by omega, for_range (lo := 0) (n := r.toNat) (fun j σ H6 => ∃ B v1 v2 v3 v4, σ = [some (.ref aS), some (.int n), some (.ref p), some (.ref B), v4, v5] ∧ BkAt p H6 B v1 v2 v3 ∧ Went p H3 H6) ⟨B, w1, w2, w3, v4, rfl, bk4.sx s5, W5⟩ ?_ ?_⟩
  ·rintro j σ H6 hj ⟨B, v1, v2, v3, v4, rfl, bk, W6⟩
   obtain ⟨d1, d2, d3⟩ := bk.dats
   refine ⟨_, rfl, B, _, 0, v1, rfl, rfl, SqT.of bk.tup, at0, _, rfl, B, _, 1, v2, rfl, rfl, SqT.of bk.tup, at1, _, rfl, B, _, 2, v3, rfl, rfl, SqT.of bk.tup, at2, v1, v2, v3, rfl, d1, d2, d3, bk.nt, fun H7 s7 => ⟨_, rfl, ?_⟩⟩
   have W7 : Went p H3 H7 := ⟨W6.pot.keep s7, W6.same.same s7⟩
   have bk7 := bk.sx s7.x
   by_cases hb : BookV H6 v1 v2 v3
   ·rw [tr_of hb]
    refine iteT ?_
    refine ⟨_, rfl, _, rfl, p, B, v1, v2, v3, rfl, W7.pot, bk7, (book_keep d1 d2 d3 (.of s7)).mpr hb, fun B' u1 u2 u3 H8 hB' W8 => ?_⟩
    exact ⟨B', u1, u2, u3, _, rfl, hB', W7.trans W8⟩
   ·rw [tr_no hb]
    exact iteF ⟨B, v1, v2, v3, _, rfl, bk7, W7⟩
  ·rintro σ H6 ⟨B, v1, v2, v3, v4, rfl, bk, W6⟩
   obtain ⟨d1, d2, d3⟩ := bk.dats
   obtain ⟨d, rd, pr⟩ := bk.all
   obtain ⟨f1, f2, f3⟩ := pr.fits (by decide) (by decide)
   refine ⟨_, rfl, _, B, d, rfl, rd, f1, f2, f3, ?_⟩
   refine ⟨_, rfl, B, v1, v2, v3, rfl, bk.tup, d1, d2, d3, fun H7 s7 => ?_⟩
   have bk7 := bk.sx s7.x
   obtain ⟨e1, e2, e3⟩ := bk7.dats
   refine ⟨_, rfl, B, _, 0, v1, rfl, rfl, SqT.of bk7.tup, at0, _, rfl, B, _, 1, v2, rfl, rfl, SqT.of bk7.tup, at1, _, rfl, B, _, 2, v3, rfl, rfl, SqT.of bk7.tup, at2, v1, v2, v3, rfl, e1, e2, e3, bk7.nt, fun H8 s8 => .inr ⟨_, rfl, rfl, _, rfl, ?_⟩⟩
   have e : (BookV H7 v1 v2 v3) = BookV H6 v1 v2 v3 := propext (book_keep d1 d2 d3 (.of s7))
   rw [e]
   refine ifF (by simp) ?_
   have s68 := s7.trans s8
   have W8 : Went p H3 H8 := ⟨W6.pot.keep s68, W6.same.same s68⟩
   refine ⟨_, rfl, _, B, d, rfl, rd.mono (fun _ z => z) (fun a o _ e => s68 a o e), f1, f2, f3, _, rfl, rfl, _, rfl, ?_⟩
   refine ifF (by simp) ?_
   exact ⟨_, _, _, _, _, rfl, fin W8⟩
end
end FewE

set_option Elab.async false
set_option linter.all false
set_option maxRecDepth 100000
set_option maxHeartbeats 1000000
namespace FewE
open PySem L2 Few
theorem exc_cls {K : PySem.W.Frag} {mg : Str → Option Value} {x : Str} {C : Addr} (hb : mg x = some (.ref C)) (q : PySem.W.excIn K C mroVE "ValueError.__new__" = true) : ExcCls K mg x C := by
 intro h X
 refine ⟨hb, ?_⟩
 unfold PySem.W.excIn at q
 split at q
 ·rename_i dd cd sl ho
  split at q
  ·rename_i C' bm k0 k1 k2 k3 n k5 hm hs
   simp only [Bool.and_eq_true, beq_iff_eq, Bool.not_eq_true'] at q
   obtain ⟨⟨⟨⟨⟨rfl, rfl⟩, hdel⟩, ht⟩, hok⟩, hni⟩ := q
   obtain ⟨nm, bs, mro, ns, qn, hd, sn, sub, ab, col, del⟩ := cd
   dsimp only at hm hdel hok hni
   subst hm hdel
   have hsl : sl = #[k0, k1, k2, k3, some (.builtin "ValueError.__new__"), k5] := by
    obtain ⟨l⟩ := sl
    simp only at hs
    rw [hs]
   subst hsl
   exact ⟨bm, ns, nm, qn, bs, hd, sn, sub, ab, col, dd, k0, k1, k2, k3, k5, _, X _ _ ho, .of_isNs (PySem.W.isNs_of_in X hok), PySem.W.nsMap_none_of_in X hok hni, PySem.W.tail_of_in X ht⟩
  ·cases q
 ·cases q
end FewE

set_option Elab.async false
set_option linter.all false
set_option maxRecDepth 100000
set_option maxHeartbeats 4000000
namespace FewE
open PySem L2 Few
theorem funAt_mk {K : PySem.W.Frag} {h : Heap} {mg : Str → Option Value} {x : Str} {st : Stmt} {ps : List Str} {f : Addr} {oc kV dc pm cd ct : Value} {od an : Option Addr} {sl : Array (Option Value)} (X : K.In h) (G : h.Ns mainGlobals mg)
  (a : PySem.W.nsIn K mainGlobals x = some (some (.ref f))) (l : K.lookup f = some ⟨oc, od, .func (PySem.W.fnOf x x (defArgs st) (defBody st) (defScope st) .none kV dc pm an cd ct), sl⟩) (c : PySem.W.codeIn K cd x = true) (k : PySem.W.keepIn K (.ref f) = true)
  (b : ∀ (kV doc pm : Value) (an : Option Addr) (cdv ct : Value) (us : List Value), us.length = ps.length → bindArgs (PySem.W.fnOf x x (defArgs st) (defBody st) (defScope st) .none kV doc pm an cdv ct) ⟨us, []⟩ = pure (ps.zip us)) : FunAt K mg x st ps :=
 ⟨f, _, fun_mk l c k, PySem.W.mg_of X G a, (fun_mk (st := st) l c k).binds b⟩
theorem all_mk {l : PySem.W.OpenLaw} {w : World} {K : PySem.W.Frag} {h : Heap} {mg : Str → Option Value} {cdN : ClassData} {fa C wa CN fe x1 x2 x3 x4 x5 x6 x7 x8 : Addr} {f0 : Addr} {oc0 kV0 dc0 pm0 cd0 ct0 : Value} {od0 an0 : Option Addr} {sl0 : Array (Option Value)} {f1 : Addr} {oc1 kV1 dc1 pm1 cd1 ct1 : Value} {od1 an1 : Option Addr} {sl1 : Array (Option Value)} {f2 : Addr} {oc2 kV2 dc2 pm2 cd2 ct2 : Value} {od2 an2 : Option Addr} {sl2 : Array (Option Value)} {f3 : Addr} {oc3 kV3 dc3 pm3 cd3 ct3 : Value} {od3 an3 : Option Addr} {sl3 : Array (Option Value)} {f4 : Addr} {oc4 kV4 dc4 pm4 cd4 ct4 : Value} {od4 an4 : Option Addr} {sl4 : Array (Option Value)} {f5 : Addr} {oc5 kV5 dc5 pm5 cd5 ct5 : Value} {od5 an5 : Option Addr} {sl5 : Array (Option Value)} {f6 : Addr} {oc6 kV6 dc6 pm6 cd6 ct6 : Value} {od6 an6 : Option Addr} {sl6 : Array (Option Value)} {f7 : Addr} {oc7 kV7 dc7 pm7 cd7 ct7 : Value} {od7 an7 : Option Addr} {sl7 : Array (Option Value)} {f8 : Addr} {oc8 kV8 dc8 pm8 cd8 ct8 : Value} {od8 an8 : Option Addr} {sl8 : Array (Option Value)} {f9 : Addr} {oc9 kV9 dc9 pm9 cd9 ct9 : Value} {od9 an9 : Option Addr} {sl9 : Array (Option Value)} {f10 : Addr} {oc10 kV10 dc10 pm10 cd10 ct10 : Value} {od10 an10 : Option Addr} {sl10 : Array (Option Value)} {f11 : Addr} {oc11 kV11 dc11 pm11 cd11 ct11 : Value} {od11 an11 : Option Addr} {sl11 : Array (Option Value)} {f12 : Addr} {oc12 kV12 dc12 pm12 cd12 ct12 : Value} {od12 an12 : Option Addr} {sl12 : Array (Option Value)} {f13 : Addr} {oc13 kV13 dc13 pm13 cd13 ct13 : Value} {od13 an13 : Option Addr} {sl13 : Array (Option Value)} {f14 : Addr} {oc14 kV14 dc14 pm14 cd14 ct14 : Value} {od14 an14 : Option Addr} {sl14 : Array (Option Value)} {f15 : Addr} {oc15 kV15 dc15 pm15 cd15 ct15 : Value} {od15 an15 : Option Addr} {sl15 : Array (Option Value)} {f16 : Addr} {oc16 kV16 dc16 pm16 cd16 ct16 : Value} {od16 an16 : Option Addr} {sl16 : Array (Option Value)} {f17 : Addr} {oc17 kV17 dc17 pm17 cd17 ct17 : Value} {od17 an17 : Option Addr} {sl17 : Array (Option Value)} {f18 : Addr} {oc18 kV18 dc18 pm18 cd18 ct18 : Value} {od18 an18 : Option Addr} {sl18 : Array (Option Value)} {f19 : Addr} {oc19 kV19 dc19 pm19 cd19 ct19 : Value} {od19 an19 : Option Addr} {sl19 : Array (Option Value)} {f20 : Addr} {oc20 kV20 dc20 pm20 cd20 ct20 : Value} {od20 an20 : Option Addr} {sl20 : Array (Option Value)} {f21 : Addr} {oc21 kV21 dc21 pm21 cd21 ct21 : Value} {od21 an21 : Option Addr} {sl21 : Array (Option Value)} {f22 : Addr} {oc22 kV22 dc22 pm22 cd22 ct22 : Value} {od22 an22 : Option Addr} {sl22 : Array (Option Value)} {f23 : Addr} {oc23 kV23 dc23 pm23 cd23 ct23 : Value} {od23 an23 : Option Addr} {sl23 : Array (Option Value)} {f24 : Addr} {oc24 kV24 dc24 pm24 cd24 ct24 : Value} {od24 an24 : Option Addr} {sl24 : Array (Option Value)} {f25 : Addr} {oc25 kV25 dc25 pm25 cd25 ct25 : Value} {od25 an25 : Option Addr} {sl25 : Array (Option Value)} {f26 : Addr} {oc26 kV26 dc26 pm26 cd26 ct26 : Value} {od26 an26 : Option Addr} {sl26 : Array (Option Value)} {tL : Tok} {tI0 : Tok} {tI1 : Tok} {tI2 : Tok} {tI3 : Tok} {tw0 tw1 tw2 tw3 tw4 : Tok} {wd : Option Addr} {wn : Nat} {ws : Array (Option Value)} (X : K.In h) (G : h.Ns mainGlobals mg) (hfa : mg "law" = some (.ref fa))
  (a0 : PySem.W.nsIn K mainGlobals "_law_cell" = some (some (.ref f0)))
  (l0 : K.lookup f0 = some ⟨oc0, od0, .func (PySem.W.fnOf "_law_cell" "_law_cell" (defArgs s_law_cell) (defBody s_law_cell) (defScope s_law_cell) .none kV0 dc0 pm0 an0 cd0 ct0), sl0⟩)
  (c0 : PySem.W.codeIn K cd0 "_law_cell" = true)
  (k0 : PySem.W.keepIn K (.ref f0) = true)
  (a1 : PySem.W.nsIn K mainGlobals "_law_pot" = some (some (.ref f1)))
  (l1 : K.lookup f1 = some ⟨oc1, od1, .func (PySem.W.fnOf "_law_pot" "_law_pot" (defArgs s_law_pot) (defBody s_law_pot) (defScope s_law_pot) .none kV1 dc1 pm1 an1 cd1 ct1), sl1⟩)
  (c1 : PySem.W.codeIn K cd1 "_law_pot" = true)
  (k1 : PySem.W.keepIn K (.ref f1) = true)
  (a2 : PySem.W.nsIn K mainGlobals "_law_draw" = some (some (.ref f2)))
  (l2 : K.lookup f2 = some ⟨oc2, od2, .func (PySem.W.fnOf "_law_draw" "_law_draw" (defArgs s_law_draw) (defBody s_law_draw) (defScope s_law_draw) .none kV2 dc2 pm2 an2 cd2 ct2), sl2⟩)
  (c2 : PySem.W.codeIn K cd2 "_law_draw" = true)
  (k2 : PySem.W.keepIn K (.ref f2) = true)
  (a3 : PySem.W.nsIn K mainGlobals "_law_unlike" = some (some (.ref f3)))
  (l3 : K.lookup f3 = some ⟨oc3, od3, .func (PySem.W.fnOf "_law_unlike" "_law_unlike" (defArgs s_law_unlike) (defBody s_law_unlike) (defScope s_law_unlike) .none kV3 dc3 pm3 an3 cd3 ct3), sl3⟩)
  (c3 : PySem.W.codeIn K cd3 "_law_unlike" = true)
  (k3 : PySem.W.keepIn K (.ref f3) = true)
  (a4 : PySem.W.nsIn K mainGlobals "_law_book" = some (some (.ref f4)))
  (l4 : K.lookup f4 = some ⟨oc4, od4, .func (PySem.W.fnOf "_law_book" "_law_book" (defArgs s_law_book) (defBody s_law_book) (defScope s_law_book) .none kV4 dc4 pm4 an4 cd4 ct4), sl4⟩)
  (c4 : PySem.W.codeIn K cd4 "_law_book" = true)
  (k4 : PySem.W.keepIn K (.ref f4) = true)
  (a5 : PySem.W.nsIn K mainGlobals "_law_odd" = some (some (.ref f5)))
  (l5 : K.lookup f5 = some ⟨oc5, od5, .func (PySem.W.fnOf "_law_odd" "_law_odd" (defArgs s_law_odd) (defBody s_law_odd) (defScope s_law_odd) .none kV5 dc5 pm5 an5 cd5 ct5), sl5⟩)
  (c5 : PySem.W.codeIn K cd5 "_law_odd" = true)
  (k5 : PySem.W.keepIn K (.ref f5) = true)
  (a6 : PySem.W.nsIn K mainGlobals "_law_list_odd" = some (some (.ref f6)))
  (l6 : K.lookup f6 = some ⟨oc6, od6, .func (PySem.W.fnOf "_law_list_odd" "_law_list_odd" (defArgs s_law_list_odd) (defBody s_law_list_odd) (defScope s_law_list_odd) .none kV6 dc6 pm6 an6 cd6 ct6), sl6⟩)
  (c6 : PySem.W.codeIn K cd6 "_law_list_odd" = true)
  (k6 : PySem.W.keepIn K (.ref f6) = true)
  (a7 : PySem.W.nsIn K mainGlobals "_law_put" = some (some (.ref f7)))
  (l7 : K.lookup f7 = some ⟨oc7, od7, .func (PySem.W.fnOf "_law_put" "_law_put" (defArgs s_law_put) (defBody s_law_put) (defScope s_law_put) .none kV7 dc7 pm7 an7 cd7 ct7), sl7⟩)
  (c7 : PySem.W.codeIn K cd7 "_law_put" = true)
  (k7 : PySem.W.keepIn K (.ref f7) = true)
  (a8 : PySem.W.nsIn K mainGlobals "_law_spoilt_sign" = some (some (.ref f8)))
  (l8 : K.lookup f8 = some ⟨oc8, od8, .func (PySem.W.fnOf "_law_spoilt_sign" "_law_spoilt_sign" (defArgs s_law_spoilt_sign) (defBody s_law_spoilt_sign) (defScope s_law_spoilt_sign) .none kV8 dc8 pm8 an8 cd8 ct8), sl8⟩)
  (c8 : PySem.W.codeIn K cd8 "_law_spoilt_sign" = true)
  (k8 : PySem.W.keepIn K (.ref f8) = true)
  (a9 : PySem.W.nsIn K mainGlobals "_law_spoilt" = some (some (.ref f9)))
  (l9 : K.lookup f9 = some ⟨oc9, od9, .func (PySem.W.fnOf "_law_spoilt" "_law_spoilt" (defArgs s_law_spoilt) (defBody s_law_spoilt) (defScope s_law_spoilt) .none kV9 dc9 pm9 an9 cd9 ct9), sl9⟩)
  (c9 : PySem.W.codeIn K cd9 "_law_spoilt" = true)
  (k9 : PySem.W.keepIn K (.ref f9) = true)
  (a10 : PySem.W.nsIn K mainGlobals "_law_row" = some (some (.ref f10)))
  (l10 : K.lookup f10 = some ⟨oc10, od10, .func (PySem.W.fnOf "_law_row" "_law_row" (defArgs s_law_row) (defBody s_law_row) (defScope s_law_row) .none kV10 dc10 pm10 an10 cd10 ct10), sl10⟩)
  (c10 : PySem.W.codeIn K cd10 "_law_row" = true)
  (k10 : PySem.W.keepIn K (.ref f10) = true)
  (a11 : PySem.W.nsIn K mainGlobals "_law_name" = some (some (.ref f11)))
  (l11 : K.lookup f11 = some ⟨oc11, od11, .func (PySem.W.fnOf "_law_name" "_law_name" (defArgs s_law_name) (defBody s_law_name) (defScope s_law_name) .none kV11 dc11 pm11 an11 cd11 ct11), sl11⟩)
  (c11 : PySem.W.codeIn K cd11 "_law_name" = true)
  (k11 : PySem.W.keepIn K (.ref f11) = true)
  (a12 : PySem.W.nsIn K mainGlobals "_law_sign" = some (some (.ref f12)))
  (l12 : K.lookup f12 = some ⟨oc12, od12, .func (PySem.W.fnOf "_law_sign" "_law_sign" (defArgs s_law_sign) (defBody s_law_sign) (defScope s_law_sign) .none kV12 dc12 pm12 an12 cd12 ct12), sl12⟩)
  (c12 : PySem.W.codeIn K cd12 "_law_sign" = true)
  (k12 : PySem.W.keepIn K (.ref f12) = true)
  (a13 : PySem.W.nsIn K mainGlobals "_law_is_book" = some (some (.ref f13)))
  (l13 : K.lookup f13 = some ⟨oc13, od13, .func (PySem.W.fnOf "_law_is_book" "_law_is_book" (defArgs s_law_is_book) (defBody s_law_is_book) (defScope s_law_is_book) .none kV13 dc13 pm13 an13 cd13 ct13), sl13⟩)
  (c13 : PySem.W.codeIn K cd13 "_law_is_book" = true)
  (k13 : PySem.W.keepIn K (.ref f13) = true)
  (a14 : PySem.W.nsIn K mainGlobals "_law_just" = some (some (.ref f14)))
  (l14 : K.lookup f14 = some ⟨oc14, od14, .func (PySem.W.fnOf "_law_just" "_law_just" (defArgs s_law_just) (defBody s_law_just) (defScope s_law_just) .none kV14 dc14 pm14 an14 cd14 ct14), sl14⟩)
  (c14 : PySem.W.codeIn K cd14 "_law_just" = true)
  (k14 : PySem.W.keepIn K (.ref f14) = true)
  (a15 : PySem.W.nsIn K mainGlobals "_law_told" = some (some (.ref f15)))
  (l15 : K.lookup f15 = some ⟨oc15, od15, .func (PySem.W.fnOf "_law_told" "_law_told" (defArgs s_law_told) (defBody s_law_told) (defScope s_law_told) .none kV15 dc15 pm15 an15 cd15 ct15), sl15⟩)
  (c15 : PySem.W.codeIn K cd15 "_law_told" = true)
  (k15 : PySem.W.keepIn K (.ref f15) = true)
  (a16 : PySem.W.nsIn K mainGlobals "is_list" = some (some (.ref f16)))
  (l16 : K.lookup f16 = some ⟨oc16, od16, .func (PySem.W.fnOf "is_list" "is_list" (defArgs s_is_list) (defBody s_is_list) (defScope s_is_list) .none kV16 dc16 pm16 an16 cd16 ct16), sl16⟩)
  (c16 : PySem.W.codeIn K cd16 "is_list" = true)
  (k16 : PySem.W.keepIn K (.ref f16) = true)
  (a17 : PySem.W.nsIn K mainGlobals "is_name" = some (some (.ref f17)))
  (l17 : K.lookup f17 = some ⟨oc17, od17, .func (PySem.W.fnOf "is_name" "is_name" (defArgs s_is_name) (defBody s_is_name) (defScope s_is_name) .none kV17 dc17 pm17 an17 cd17 ct17), sl17⟩)
  (c17 : PySem.W.codeIn K cd17 "is_name" = true)
  (k17 : PySem.W.keepIn K (.ref f17) = true)
  (a18 : PySem.W.nsIn K mainGlobals "check_apart" = some (some (.ref f18)))
  (l18 : K.lookup f18 = some ⟨oc18, od18, .func (PySem.W.fnOf "check_apart" "check_apart" (defArgs s_check_apart) (defBody s_check_apart) (defScope s_check_apart) .none kV18 dc18 pm18 an18 cd18 ct18), sl18⟩)
  (c18 : PySem.W.codeIn K cd18 "check_apart" = true)
  (k18 : PySem.W.keepIn K (.ref f18) = true)
  (a19 : PySem.W.nsIn K mainGlobals "checked_kinds" = some (some (.ref f19)))
  (l19 : K.lookup f19 = some ⟨oc19, od19, .func (PySem.W.fnOf "checked_kinds" "checked_kinds" (defArgs s_checked_kinds) (defBody s_checked_kinds) (defScope s_checked_kinds) .none kV19 dc19 pm19 an19 cd19 ct19), sl19⟩)
  (c19 : PySem.W.codeIn K cd19 "checked_kinds" = true)
  (k19 : PySem.W.keepIn K (.ref f19) = true)
  (a20 : PySem.W.nsIn K mainGlobals "checked_kind" = some (some (.ref f20)))
  (l20 : K.lookup f20 = some ⟨oc20, od20, .func (PySem.W.fnOf "checked_kind" "checked_kind" (defArgs s_checked_kind) (defBody s_checked_kind) (defScope s_checked_kind) .none kV20 dc20 pm20 an20 cd20 ct20), sl20⟩)
  (c20 : PySem.W.codeIn K cd20 "checked_kind" = true)
  (k20 : PySem.W.keepIn K (.ref f20) = true)
  (a21 : PySem.W.nsIn K mainGlobals "checked_places" = some (some (.ref f21)))
  (l21 : K.lookup f21 = some ⟨oc21, od21, .func (PySem.W.fnOf "checked_places" "checked_places" (defArgs s_checked_places) (defBody s_checked_places) (defScope s_checked_places) .none kV21 dc21 pm21 an21 cd21 ct21), sl21⟩)
  (c21 : PySem.W.codeIn K cd21 "checked_places" = true)
  (k21 : PySem.W.keepIn K (.ref f21) = true)
  (a22 : PySem.W.nsIn K mainGlobals "checked_sign_name" = some (some (.ref f22)))
  (l22 : K.lookup f22 = some ⟨oc22, od22, .func (PySem.W.fnOf "checked_sign_name" "checked_sign_name" (defArgs s_checked_sign_name) (defBody s_checked_sign_name) (defScope s_checked_sign_name) .none kV22 dc22 pm22 an22 cd22 ct22), sl22⟩)
  (c22 : PySem.W.codeIn K cd22 "checked_sign_name" = true)
  (k22 : PySem.W.keepIn K (.ref f22) = true)
  (a23 : PySem.W.nsIn K mainGlobals "checked_tie" = some (some (.ref f23)))
  (l23 : K.lookup f23 = some ⟨oc23, od23, .func (PySem.W.fnOf "checked_tie" "checked_tie" (defArgs s_checked_tie) (defBody s_checked_tie) (defScope s_checked_tie) .none kV23 dc23 pm23 an23 cd23 ct23), sl23⟩)
  (c23 : PySem.W.codeIn K cd23 "checked_tie" = true)
  (k23 : PySem.W.keepIn K (.ref f23) = true)
  (a24 : PySem.W.nsIn K mainGlobals "checked_function" = some (some (.ref f24)))
  (l24 : K.lookup f24 = some ⟨oc24, od24, .func (PySem.W.fnOf "checked_function" "checked_function" (defArgs s_checked_function) (defBody s_checked_function) (defScope s_checked_function) .none kV24 dc24 pm24 an24 cd24 ct24), sl24⟩)
  (c24 : PySem.W.codeIn K cd24 "checked_function" = true)
  (k24 : PySem.W.keepIn K (.ref f24) = true)
  (a25 : PySem.W.nsIn K mainGlobals "law" = some (some (.ref f25)))
  (l25 : K.lookup f25 = some ⟨oc25, od25, .func (PySem.W.fnOf "law" "law" (defArgs s_law) (defBody s_law) (defScope s_law) .none kV25 dc25 pm25 an25 cd25 ct25), sl25⟩)
  (c25 : PySem.W.codeIn K cd25 "law" = true)
  (k25 : PySem.W.keepIn K (.ref f25) = true)
  (aC : PySem.W.nsIn K mainGlobals "Signs" = some (some (.ref C)))
  (a26 : PySem.W.findIn K (.ref C) "__init__" = some (some (.ref f26)))
  (i26 : PySem.W.isFn K (.ref f26) = true)
  (l26 : K.lookup f26 = some ⟨oc26, od26, .func (PySem.W.fnOf "__init__" "Signs.__init__" (defArgs s__init__) (defBody s__init__) (defScope s__init__) .none kV26 dc26 pm26 an26 cd26 ct26), sl26⟩)
  (c26 : PySem.W.codeIn K cd26 "Signs.__init__" = true)
  (k26 : PySem.W.keepIn K (.ref f26) = true)
  (pg : PySem.W.plainGet K C Str.empty = true)
  (hd : PySem.W.hasDictIn K C = true)
  (po : PySem.W.plainOver K C = true)
  (sa : PySem.W.findIn K (.ref C) "__setattr__" = some (some (.builtin "object.__setattr__")))
  (mk : PySem.W.makesIn K C = true)
  (kc : PySem.W.keepIn K (.ref C) = true)
  (nK : PySem.W.findIn K (.ref C) "kept_kinds" = some none)
  (nT : PySem.W.findIn K (.ref C) "kept_ties" = some none)
  (nF : PySem.W.findIn K (.ref C) "kept_functions" = some none)
  (aN : PySem.W.nsIn K mainGlobals "NoSigns" = some (some (.ref CN)))
  (aF : PySem.W.nsIn K mainGlobals "FewError" = some (some (.ref fe)))
  (aX1 : PySem.W.nsIn K mainGlobals "NoNaming" = some (some (.ref x1)))
  (aX2 : PySem.W.nsIn K mainGlobals "NoPart" = some (some (.ref x2)))
  (aX3 : PySem.W.nsIn K mainGlobals "NoRow" = some (some (.ref x3)))
  (aX4 : PySem.W.nsIn K mainGlobals "NoSaying" = some (some (.ref x4)))
  (aX5 : PySem.W.nsIn K mainGlobals "NoSize" = some (some (.ref x5)))
  (aX6 : PySem.W.nsIn K mainGlobals "NoText" = some (some (.ref x6)))
  (aX7 : PySem.W.nsIn K mainGlobals "NoWorld" = some (some (.ref x7)))
  (aX8 : PySem.W.nsIn K mainGlobals "TooMany" = some (some (.ref x8)))
  (xN : PySem.W.excIn K CN mroVE "ValueError.__new__" = true)
  (yga : PySem.W.findIn K (.ref CN) "__getattribute__" = some (some (.builtin "BaseException.__getattribute__")))
  (ygn : PySem.W.findIn K (.ref CN) "__getattr__" = some none)
  (ycl : PySem.W.findIn K (.ref CN) "__class__" = some (some (.builtin "object.__class__")))
  (ymb : PySem.W.mroIn K CN (.type "BaseException") = some true)
  (ymo : PySem.W.mroIn K CN (.type "object") = some true)
  (yty : PySem.W.clsIn K CN = some cdN)
  (yve : PySem.W.kitOne K (.ref CN) (.type "ValueError") = some true)
  (yfe : PySem.W.kitOne K (.ref CN) (.ref fe) = some true)
  (yot : PySem.W.kitAny K (.ref CN) [.ref x1, .ref x2, .ref x3, .ref x4, .ref x5, .ref x6, .ref x7, .ref x8] = some false)
  (z_enumerate : PySem.W.nsIn K mainGlobals "enumerate" = some none)
  (z_ValueError : PySem.W.nsIn K mainGlobals "ValueError" = some none)
  (z_len : PySem.W.nsIn K mainGlobals "len" = some none)
  (z_max : PySem.W.nsIn K mainGlobals "max" = some none)
  (z_abs : PySem.W.nsIn K mainGlobals "abs" = some none)
  (z_divmod : PySem.W.nsIn K mainGlobals "divmod" = some none)
  (z_list : PySem.W.nsIn K mainGlobals "list" = some none)
  (z_tuple : PySem.W.nsIn K mainGlobals "tuple" = some none)
  (z_range : PySem.W.nsIn K mainGlobals "range" = some none)
  (z_int : PySem.W.nsIn K mainGlobals "int" = some none)
  (z_str : PySem.W.nsIn K mainGlobals "str" = some none)
  (z_repr : PySem.W.nsIn K mainGlobals "repr" = some none)
  (z_isinstance : PySem.W.nsIn K mainGlobals "isinstance" = some none)
  (z_all : PySem.W.nsIn K mainGlobals "all" = some none)
  (z_set : PySem.W.nsIn K mainGlobals "set" = some none)
  (gL : PySem.W.nsIn K mainGlobals "LETTERS" = some (some (.str (Str.ofString "abcdefghijklmnopqrstuvwxyz") tL)))
  (gI0 : PySem.W.nsIn K mainGlobals "LONGEST_NAME" = some (some (.int 12 tI0)))
  (gI1 : PySem.W.nsIn K mainGlobals "MOST_KINDS" = some (some (.int 4 tI1)))
  (gI2 : PySem.W.nsIn K mainGlobals "MOST_SIGNS" = some (some (.int 8 tI2)))
  (gI3 : PySem.W.nsIn K mainGlobals "MOST_PLACES" = some (some (.int 2 tI3)))
  (gW : PySem.W.nsIn K mainGlobals "WORDS_OF_SAYINGS" = some (some (.ref wa)))
  (lW : K.lookup wa = some ⟨.type "tuple", wd, .seq #[.str (Str.ofString "all") tw0, .str (Str.ofString "some") tw1, .str (Str.ofString "not") tw2, .str (Str.ofString "and") tw3, .str (Str.ofString "or") tw4] wn, ws⟩)
  : ∃ fd : FuncData, (∀ (s : Shared) (v : Value), BindsTo s fd ⟨[v], []⟩ [("_law_script", v)]) ∧ ∀ base : Heap, K.In base → base.Ns mainGlobals mg → FnOk l.prog w K mg base CX0 8 fa fd ["_law_script"] (spLaw K) := by
 have T : ClS K C := ⟨⟨pg, hd, po, sa⟩, nK, nT, nF⟩
 have Z : Bl mg := ⟨PySem.W.mg_none_of X G z_len, PySem.W.mg_none_of X G z_max, PySem.W.mg_none_of X G z_abs, PySem.W.mg_none_of X G z_divmod, PySem.W.mg_none_of X G z_list, PySem.W.mg_none_of X G z_tuple, PySem.W.mg_none_of X G z_range, PySem.W.mg_none_of X G z_int, PySem.W.mg_none_of X G z_str, PySem.W.mg_none_of X G z_repr, PySem.W.mg_none_of X G z_isinstance, PySem.W.mg_none_of X G z_all, PySem.W.mg_none_of X G z_set⟩
 have Gg : Gs K mg := ⟨⟨_, PySem.W.mg_of X G gL, tL, rfl⟩, ⟨_, PySem.W.mg_of X G gI0, tI0, rfl⟩, ⟨_, PySem.W.mg_of X G gI1, tI1, rfl⟩, ⟨_, PySem.W.mg_of X G gI2, tI2, rfl⟩, ⟨_, PySem.W.mg_of X G gI3, tI3, rfl⟩, wa, PySem.W.mg_of X G gW, fun H => .inr ⟨_, _, _, lW, rfl, rfl, by show 5 ≤ sizeLine; decide, .cons ⟨tw0, rfl⟩ (.cons ⟨tw1, rfl⟩ (.cons ⟨tw2, rfl⟩ (.cons ⟨tw3, rfl⟩ (.cons ⟨tw4, rfl⟩ (.nil)))))⟩⟩
 have F0 : FunAt K mg "_law_cell" s_law_cell ["_law_script", "_law_k"] := funAt_mk X G a0 l0 c0 k0 fun _ _ _ _ _ _ us hl => match us, hl with | [_, _], _ => rfl
 have F1 : FunAt K mg "_law_pot" s_law_pot ["_law_cell_here"] := funAt_mk X G a1 l1 c1 k1 fun _ _ _ _ _ _ us hl => match us, hl with | [_], _ => rfl
 have F2 : FunAt K mg "_law_draw" s_law_draw ["_law_pot_here", "_law_many"] := funAt_mk X G a2 l2 c2 k2 fun _ _ _ _ _ _ us hl => match us, hl with | [_, _], _ => rfl
 have F3 : FunAt K mg "_law_unlike" s_law_unlike ["_law_pot_here", "_law_many", "_law_menu"] := funAt_mk X G a3 l3 c3 k3 fun _ _ _ _ _ _ us hl => match us, hl with | [_, _, _], _ => rfl
 have F4 : FunAt K mg "_law_book" s_law_book ["_law_pot_here", "_law_most_kinds", "_law_most_signs"] := funAt_mk X G a4 l4 c4 k4 fun _ _ _ _ _ _ us hl => match us, hl with | [_, _, _], _ => rfl
 have F5 : FunAt K mg "_law_odd" s_law_odd ["_law_pot_here"] := funAt_mk X G a5 l5 c5 k5 fun _ _ _ _ _ _ us hl => match us, hl with | [_], _ => rfl
 have F6 : FunAt K mg "_law_list_odd" s_law_list_odd ["_law_pot_here"] := funAt_mk X G a6 l6 c6 k6 fun _ _ _ _ _ _ us hl => match us, hl with | [_], _ => rfl
 have F7 : FunAt K mg "_law_put" s_law_put ["_law_pot_here", "_law_rows", "_law_thing"] := funAt_mk X G a7 l7 c7 k7 fun _ _ _ _ _ _ us hl => match us, hl with | [_, _, _], _ => rfl
 have F8 : FunAt K mg "_law_spoilt_sign" s_law_spoilt_sign ["_law_pot_here", "_law_signs", "_law_kinds"] := funAt_mk X G a8 l8 c8 k8 fun _ _ _ _ _ _ us hl => match us, hl with | [_, _, _], _ => rfl
 have F9 : FunAt K mg "_law_spoilt" s_law_spoilt ["_law_pot_here", "_law_book_here"] := funAt_mk X G a9 l9 c9 k9 fun _ _ _ _ _ _ us hl => match us, hl with | [_, _], _ => rfl
 have F10 : FunAt K mg "_law_row" s_law_row ["_law_thing"] := funAt_mk X G a10 l10 c10 k10 fun _ _ _ _ _ _ us hl => match us, hl with | [_], _ => rfl
 have F11 : FunAt K mg "_law_name" s_law_name ["_law_thing"] := funAt_mk X G a11 l11 c11 k11 fun _ _ _ _ _ _ us hl => match us, hl with | [_], _ => rfl
 have F12 : FunAt K mg "_law_sign" s_law_sign ["_law_kinds", "_law_thing", "_law_many"] := funAt_mk X G a12 l12 c12 k12 fun _ _ _ _ _ _ us hl => match us, hl with | [_, _, _], _ => rfl
 have F13 : FunAt K mg "_law_is_book" s_law_is_book ["_law_kinds", "_law_ties", "_law_functions"] := funAt_mk X G a13 l13 c13 k13 fun _ _ _ _ _ _ us hl => match us, hl with | [_, _, _], _ => rfl
 have F14 : FunAt K mg "_law_just" s_law_just ["_law_e"] := funAt_mk X G a14 l14 c14 k14 fun _ _ _ _ _ _ us hl => match us, hl with | [_], _ => rfl
 have F15 : FunAt K mg "_law_told" s_law_told ["_law_book_here"] := funAt_mk X G a15 l15 c15 k15 fun _ _ _ _ _ _ us hl => match us, hl with | [_], _ => rfl
 have F16 : FunAt K mg "is_list" s_is_list ["thing"] := funAt_mk X G a16 l16 c16 k16 fun _ _ _ _ _ _ us hl => match us, hl with | [_], _ => rfl
 have F17 : FunAt K mg "is_name" s_is_name ["thing"] := funAt_mk X G a17 l17 c17 k17 fun _ _ _ _ _ _ us hl => match us, hl with | [_], _ => rfl
 have F18 : FunAt K mg "check_apart" s_check_apart ["names"] := funAt_mk X G a18 l18 c18 k18 fun _ _ _ _ _ _ us hl => match us, hl with | [_], _ => rfl
 have F19 : FunAt K mg "checked_kinds" s_checked_kinds ["kinds"] := funAt_mk X G a19 l19 c19 k19 fun _ _ _ _ _ _ us hl => match us, hl with | [_], _ => rfl
 have F20 : FunAt K mg "checked_kind" s_checked_kind ["kinds", "kind"] := funAt_mk X G a20 l20 c20 k20 fun _ _ _ _ _ _ us hl => match us, hl with | [_, _], _ => rfl
 have F21 : FunAt K mg "checked_places" s_checked_places ["kinds", "places"] := funAt_mk X G a21 l21 c21 k21 fun _ _ _ _ _ _ us hl => match us, hl with | [_, _], _ => rfl
 have F22 : FunAt K mg "checked_sign_name" s_checked_sign_name ["name"] := funAt_mk X G a22 l22 c22 k22 fun _ _ _ _ _ _ us hl => match us, hl with | [_], _ => rfl
 have F23 : FunAt K mg "checked_tie" s_checked_tie ["kinds", "tie"] := funAt_mk X G a23 l23 c23 k23 fun _ _ _ _ _ _ us hl => match us, hl with | [_, _], _ => rfl
 have F24 : FunAt K mg "checked_function" s_checked_function ["kinds", "function"] := funAt_mk X G a24 l24 c24 k24 fun _ _ _ _ _ _ us hl => match us, hl with | [_, _], _ => rfl
 have F25 : FunAt K mg "law" s_law ["_law_script"] := funAt_mk X G a25 l25 c25 k25 fun _ _ _ _ _ _ us hl => match us, hl with | [_], _ => rfl
 have F26 := fun_mk (st := s__init__) l26 c26 k26
 have b26 := F26.binds (ps := ["self", "kinds", "ties", "functions"]) fun _ _ _ _ _ _ us hl => match us, hl with | [_, _, _, _], _ => rfl
 have FL := fun_mk (st := s_law) l25 c25 k25
 have e := hfa.symm.trans (PySem.W.mg_of X G a25)
 cases e
 refine ⟨PySem.W.fnOf "law" "law" (defArgs s_law) (defBody s_law) (defScope s_law) .none kV25 dc25 pm25 an25 cd25 ct25, fun s v => .of_eq rfl, fun base _ _ => ?_⟩
 have O := exc_cls (PySem.W.mg_of X G aN) xN
 have TX : Xs K mg CN fe [x1, x2, x3, x4, x5, x6, x7, x8] := ⟨⟨yga, ygn, ycl, ymb, ymo, by rw [yty]; rfl⟩, yve, yfe, yot⟩
 have dCell := ok_cell (P := l.prog) (w := w) (base := base) F0 Z
 have dPot := ok_pot (P := l.prog) (w := w) (base := base) F1 Z
 have dDraw := ok_draw (P := l.prog) (w := w) (base := base) F2 Z
 have dUnlike := ok_unlike (P := l.prog) (w := w) (base := base) F3 Z dDraw
 have dBook := ok_book (P := l.prog) (w := w) (base := base) F4 Z dDraw dUnlike
 have dOdd := ok_odd (P := l.prog) (w := w) (base := base) F5 Z dDraw
 have dLo := ok_list_odd (P := l.prog) (w := w) (base := base) F6 Z dDraw
 have dPut := ok_put (P := l.prog) (w := w) (base := base) F7 Z dDraw
 have dSs := ok_spoilt_sign (P := l.prog) (w := w) (base := base) F8 Z dDraw dOdd dLo dPut
 have dSp := ok_spoilt (P := l.prog) (w := w) (base := base) F9 Z dDraw dOdd dLo dPut dSs
 have dRow := ok_row (P := l.prog) (w := w) (base := base) F10 Z
 have dName := ok_name (P := l.prog) (w := w) (base := base) F11 Z
 have dSign := ok_sign (P := l.prog) (w := w) (base := base) F12 Z dRow dName
 have dIb := ok_is_book (P := l.prog) (w := w) (base := base) F13 Z (PySem.W.mg_none_of X G z_enumerate) dRow dName dSign
 have dIl := ok_is_list (P := l.prog) (w := w) (base := base) F16 Z
 have dIn := ok_is_name (P := l.prog) (w := w) (base := base) F17 Z Gg
 have dCa := ok_apart (P := l.prog) (w := w) (base := base) F18 Z O
 have dKs := ok_kinds (P := l.prog) (w := w) (base := base) F19 Z Gg O dIl dIn dCa
 have dK := ok_kind (P := l.prog) (w := w) (base := base) F20 Z O dIn
 have dPl := ok_places (P := l.prog) (w := w) (base := base) F21 Z Gg O dIl dK
 have dSn := ok_sign_name (P := l.prog) (w := w) (base := base) F22 Z Gg O dIn
 have dTie := ok_tie (P := l.prog) (w := w) (base := base) F23 Z O dIl dSn dPl
 have dFu := ok_func (P := l.prog) (w := w) (base := base) F24 Z O dIl dSn dPl dK
 have dIni := ok_init (P := l.prog) (w := w) (base := base) F26 Z Gg T O dIl dKs dTie dFu dCa
 have dJu := ok_just (P := l.prog) (w := w) (base := base) F14 Z (PySem.W.mg_none_of X G z_ValueError) TX (PySem.W.mg_of X G aF) (PySem.W.mg_of X G aX1) (PySem.W.mg_of X G aX2) (PySem.W.mg_of X G aX3) (PySem.W.mg_of X G aX4) (PySem.W.mg_of X G aX5) (PySem.W.mg_of X G aX6) (PySem.W.mg_of X G aX7) (PySem.W.mg_of X G aX8)
 have dTo := ok_told (P := l.prog) (w := w) (base := base) F15 Z O dJu ⟨mk, a26, i26, kc⟩ dIni (PySem.W.mg_of X G aC) b26
 exact ok_law FL Z dCell dPot dDraw dBook dIb dSp dTo
theorem walk {l : PySem.W.OpenLaw} {q : Program} {loose : List Str} {XP : (Str → Option Value) → Heap → Prop} {YP : World → Heap → Prop} {d : DefRec} {K : Params → PySem.W.Frag} (hn : l.most = some 63) (hdf : d.params.defaults = []) (hq : PyProof.Rows.importsNone q = true)
  (hY : ∀ (w : World) (h : Heap), YP w h → (K w.params).In h)
  (F : ∀ (w : World) (mg : Str → Option Value) (fa : Addr) (h : Heap), (K w.params).In h → h.Ns mainGlobals mg → mg d.name = some (.ref fa) →
   ∃ fd : FuncData, (∀ (s : Shared) (u : Value), BindsTo s fd ⟨[u], []⟩ [("_law_script", u)]) ∧ ∀ base : Heap, (K w.params).In base → base.Ns mainGlobals mg → FnOk l.prog w (K w.params) mg base CX0 8 fa fd ["_law_script"] (spLaw (K w.params))) :
  PySem.W.WalkO q loose XP YP l.row.toRowW d [] (fun f vs => PySem.call f vs) :=
 L2.walk_of (n := 63) (k := 8) (x := "_law_script") (CX := fun _ => CX0) (sp := fun w => spLaw (K w.params)) hn (by decide) hdf ⟨rfl, rfl, by decide, by decide⟩ hq hY F (fun _ _ a ns hl _ hS => ⟨a, ns, rfl, hS, hl, fun _ => rfl⟩) fun _ _ _ _ _ z => z
end FewE
open PySem PySem.W PyProof.Rows
set_option maxRecDepth 100000 in
set_option maxHeartbeats 0 in
theorem PySem.Challenge.cw_fewthings_k12_whole_books_judged_holds : PySem.Challenge.rw_fewthings_k12_whole_books_judged.Holds := by
 w_on; o_law; k_head; (case hw => w_witness2)
 k_fill
 refine FewE.walk (l := PySem.Challenge.rw_fewthings_k12_whole_books_judged) rfl rfl (by first | rfl | decide +kernel) (fun w h Y => PySem.W.kIn_of Y) ?F
 case F =>
  intro w mg fa h KX G hmg
  refine' FewE.all_mk KX G hmg ?a0 ?l0 ?c0 ?k0 ?a1 ?l1 ?c1 ?k1 ?a2 ?l2 ?c2 ?k2 ?a3 ?l3 ?c3 ?k3 ?a4 ?l4 ?c4 ?k4 ?a5 ?l5 ?c5 ?k5 ?a6 ?l6 ?c6 ?k6 ?a7 ?l7 ?c7 ?k7 ?a8 ?l8 ?c8 ?k8 ?a9 ?l9 ?c9 ?k9 ?a10 ?l10 ?c10 ?k10 ?a11 ?l11 ?c11 ?k11 ?a12 ?l12 ?c12 ?k12 ?a13 ?l13 ?c13 ?k13 ?a14 ?l14 ?c14 ?k14 ?a15 ?l15 ?c15 ?k15 ?a16 ?l16 ?c16 ?k16 ?a17 ?l17 ?c17 ?k17 ?a18 ?l18 ?c18 ?k18 ?a19 ?l19 ?c19 ?k19 ?a20 ?l20 ?c20 ?k20 ?a21 ?l21 ?c21 ?k21 ?a22 ?l22 ?c22 ?k22 ?a23 ?l23 ?c23 ?k23 ?a24 ?l24 ?c24 ?k24 ?a25 ?l25 ?c25 ?k25 ?aC ?a26 ?i26 ?l26 ?c26 ?k26 ?pg ?hd ?po ?sa ?mk ?kc ?nK ?nT ?nF ?aN ?aF ?aX1 ?aX2 ?aX3 ?aX4 ?aX5 ?aX6 ?aX7 ?aX8 ?xN ?yga ?ygn ?ycl ?ymb ?ymo ?yty ?yve ?yfe ?yot ?z_enumerate ?z_ValueError ?z_len ?z_max ?z_abs ?z_divmod ?z_list ?z_tuple ?z_range ?z_int ?z_str ?z_repr ?z_isinstance ?z_all ?z_set ?gL ?gI0 ?gI1 ?gI2 ?gI3 ?gW ?lW
  (case a0 => k_is)
  (case l0 => k_is)
  (case c0 => k_is)
  (case k0 => k_is)
  (case a1 => k_is)
  (case l1 => k_is)
  (case c1 => k_is)
  (case k1 => k_is)
  (case a2 => k_is)
  (case l2 => k_is)
  (case c2 => k_is)
  (case k2 => k_is)
  (case a3 => k_is)
  (case l3 => k_is)
  (case c3 => k_is)
  (case k3 => k_is)
  (case a4 => k_is)
  (case l4 => k_is)
  (case c4 => k_is)
  (case k4 => k_is)
  (case a5 => k_is)
  (case l5 => k_is)
  (case c5 => k_is)
  (case k5 => k_is)
  (case a6 => k_is)
  (case l6 => k_is)
  (case c6 => k_is)
  (case k6 => k_is)
  (case a7 => k_is)
  (case l7 => k_is)
  (case c7 => k_is)
  (case k7 => k_is)
  (case a8 => k_is)
  (case l8 => k_is)
  (case c8 => k_is)
  (case k8 => k_is)
  (case a9 => k_is)
  (case l9 => k_is)
  (case c9 => k_is)
  (case k9 => k_is)
  (case a10 => k_is)
  (case l10 => k_is)
  (case c10 => k_is)
  (case k10 => k_is)
  (case a11 => k_is)
  (case l11 => k_is)
  (case c11 => k_is)
  (case k11 => k_is)
  (case a12 => k_is)
  (case l12 => k_is)
  (case c12 => k_is)
  (case k12 => k_is)
  (case a13 => k_is)
  (case l13 => k_is)
  (case c13 => k_is)
  (case k13 => k_is)
  (case a14 => k_is)
  (case l14 => k_is)
  (case c14 => k_is)
  (case k14 => k_is)
  (case a15 => k_is)
  (case l15 => k_is)
  (case c15 => k_is)
  (case k15 => k_is)
  (case a16 => k_is)
  (case l16 => k_is)
  (case c16 => k_is)
  (case k16 => k_is)
  (case a17 => k_is)
  (case l17 => k_is)
  (case c17 => k_is)
  (case k17 => k_is)
  (case a18 => k_is)
  (case l18 => k_is)
  (case c18 => k_is)
  (case k18 => k_is)
  (case a19 => k_is)
  (case l19 => k_is)
  (case c19 => k_is)
  (case k19 => k_is)
  (case a20 => k_is)
  (case l20 => k_is)
  (case c20 => k_is)
  (case k20 => k_is)
  (case a21 => k_is)
  (case l21 => k_is)
  (case c21 => k_is)
  (case k21 => k_is)
  (case a22 => k_is)
  (case l22 => k_is)
  (case c22 => k_is)
  (case k22 => k_is)
  (case a23 => k_is)
  (case l23 => k_is)
  (case c23 => k_is)
  (case k23 => k_is)
  (case a24 => k_is)
  (case l24 => k_is)
  (case c24 => k_is)
  (case k24 => k_is)
  (case a25 => k_is)
  (case l25 => k_is)
  (case c25 => k_is)
  (case k25 => k_is)
  (case aC => k_is)
  (case a26 => k_is)
  (case i26 => k_is)
  (case l26 => k_is)
  (case c26 => k_is)
  (case k26 => k_is)
  (case pg => k_is)
  (case hd => k_is)
  (case po => k_is)
  (case sa => k_is)
  (case mk => k_is)
  (case kc => k_is)
  (case nK => k_is)
  (case nT => k_is)
  (case nF => k_is)
  (case aN => k_is)
  (case aF => k_is)
  (case aX1 => k_is)
  (case aX2 => k_is)
  (case aX3 => k_is)
  (case aX4 => k_is)
  (case aX5 => k_is)
  (case aX6 => k_is)
  (case aX7 => k_is)
  (case aX8 => k_is)
  (case xN => k_exc)
  (case yga => k_is)
  (case ygn => k_is)
  (case ycl => k_is)
  (case ymb => k_is)
  (case ymo => k_is)
  (case yty => k_is)
  (case yve => kit_is)
  (case yfe => kit_is)
  (case yot => kit_is)
  (case z_enumerate => k_is)
  (case z_ValueError => k_is)
  (case z_len => k_is)
  (case z_max => k_is)
  (case z_abs => k_is)
  (case z_divmod => k_is)
  (case z_list => k_is)
  (case z_tuple => k_is)
  (case z_range => k_is)
  (case z_int => k_is)
  (case z_str => k_is)
  (case z_repr => k_is)
  (case z_isinstance => k_is)
  (case z_all => k_is)
  (case z_set => k_is)
  (case gL => k_is)
  (case gI0 => k_is)
  (case gI1 => k_is)
  (case gI2 => k_is)
  (case gI3 => k_is)
  (case gW => k_is)
  (case lW => k_is)


