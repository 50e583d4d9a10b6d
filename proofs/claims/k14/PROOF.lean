import PyProof.Rows.All
import Wide.All
import OpenK.AllK
import Wide.FinOn
import Lean
import PyProof.EqAt
import PyProof.EqKinds
import PyProof.TupleCall
import PyProof.ExcBaseAll.ValueError
import PyProof.RulesAs
import PyProof.RulesDel
import PyProof.ExcArgsOwn
import PyProof.Draws
import PyProof.EnumFor
import PyProof.EnumMake
import KE.KDictList
import PyProof.ZipIter
import PyProof.TupleIter
import KE.KItemsList
import PyProof.AttrMissHeap
import KE.KDictOf
import PyProof.Rows.ZipGen
import PyProof.Rows.BootFacts
import PyProof.NeKinds
import PyProof.ListRange
import PyProof.RangeFor
import PyProof.DictCompW
import PyProof.CollectIter
import PyProof.WalksMore
import PyProof.DictUpdate
import PyProof.StrBlockH
import PyProof.StrLawsTight
import PyProof.StrLawsChain
import PyProof.StrCalls6
import PyProof.StrLawsReplace
import PyProof.ListIndex
import PyProof.Rows.DictUnroll
import PyProof.Rows.StrWeight2
import PyProof.ReprLen
import KE.RegKIsAll
import PySem.Challenge.RW_fewthings_k14_sayings_written_back
namespace PySem.W.Fast
def tw2251798305311654723:=0
def tw13272784305746218340:=0
def tw2569920985379586750:=0
def tw16165622751529647785:=0
def tw4223115317224106162:=0
def tw11870104572855138473:=0
def tw4405734016601978600:=0
def tw10001833491997112634:=0
def tw7163802218141425560:=0
def tw14921833603569614048:=0
def tw166128971957196767:=0
def tw1687524582939759412:=0
def tw8448651894314091755:=0
def tw6541856249626976479:=0
def tw10869595250041849844:=0
def tw2482431181529252909:=0
def tw17600356925112734490:=0
def tw8058232526522350237:=0
def tw4704233110101969055:=0
def tw8053048873075913614:=0
def tw1645649906267810422:=0
def tw1458456810621531217:=0
def tw8086555523753024206:=0
def tw15799847571362841035:=0
def tw4156706007493087433:=0
def tw432160581771346857:=0
def tw9572438749217862300:=0
def tw17481999543005026646:=0
def tw2275586047265143391:=0
def tw8138481505667779860:=0
def tw12658676919299236201:=0
def tw10001131970764915067:=0
def tw17127045287516877279:=0
def tw4209124181604343928:=0
def tw11252934907504899750:=0
def tw8467792370626130139:=0
def tw4701849514724667565:=0
def tw9038985025057538818:=0
def tw6236265680699781810:=0
def tw3461558077774314446:=0
def tw16328610313088488307:=0
def tw135308854846221054:=0
def tw6088973650906350104:=0
def tw9209604270570437302:=0
def tw3663271678109689299:=0
def tw17392161469286734861:=0
def tw7362693690242027690:=0
def tw9980667757979625428:=0
def tw3405869411269405724:=0
def tw12453370439313617973:=0
def tw13946380629621484219:=0
def tw15051562859221518892:=0
def tw3387517425487698111:=0
def tw4558104321309699545:=0
def tw14730373421181917102:=0
def tw7915144552772198304:=0
def tw16617250656160217350:=0
def tw12230703692107006592:=0
def tw2831871361281799519:=0
def tw13425382804868322599:=0
def tw7227708239984243367:=0
def tw4611234423968056519:=0
def tw5019820957830253440:=0
def tw12202903741437658976:=0
def tw13710856496444791854:=0
def tw270778701021320459:=0
def tw9764633904091811720:=0
def tw5927002291743260256:=0
def tw7393616404049313640:=0
def tw8840794451839479676:=0
def tw3412823117344365305:=0
def tw13188172584724052387:=0
end PySem.W.Fast
set_option Elab.async false
set_option linter.all false
set_option maxRecDepth 100000
namespace L2
open PySem PySem.Spec PyProof.Rows
abbrev Key:=Sum Int Str
def keyIs:Key→Value→Bool
 | .inl k,v=>Value.isInt k v
 | .inr x,v=>Value.isStrOf x v
def keyH (w:World):Key→Int
 | .inl k=>hashInt k
 | .inr x=>hashStr w x
theorem keyIs_shape:∀ {k:Key} {v:Value},keyIs k v=true→(∃ i t,k=Sum.inl i∧v=Value.int i t)∨(∃ x t,k=Sum.inr x∧v=Value.str x t)
 | .inl i,v,h=>by
  obtain⟨t,e⟩:=Value.isInt_shape (k:=i) (v:=v) h
  exact .inl ⟨i,t,rfl,e⟩
 | .inr x,v,h=>by
  obtain⟨t,e⟩:=Value.isStrOf_shape (x:=x) (v:=v) h
  exact .inr ⟨x,t,rfl,e⟩
theorem keyIs_int (i:Int) (t:Tok):keyIs (.inl i) (.int i t)=true:=by simp [keyIs,Value.isInt]
theorem keyIs_str (x:Str) (t:Tok):keyIs (.inr x) (.str x t)=true:=by simp [keyIs,Value.isStrOf]
theorem key_ll (a b:Int):decide ((Sum.inl a:Key)=Sum.inl b)=(a==b):=by
 by_cases e:a=b
 ·subst e; simp
 ·have h:¬ (Sum.inl a:Key)=Sum.inl b:=fun q=>e (Sum.inl.inj q)
  rw [decide_eq_false h]
  exact(beq_eq_false_iff_ne.mpr e).symm
theorem key_rr (a b:Str):decide ((Sum.inr a:Key)=Sum.inr b)=decide (a=b):=by
 by_cases e:a=b
 ·subst e; simp
 ·have h:¬ (Sum.inr a:Key)=Sum.inr b:=fun q=>e (Sum.inr.inj q)
  rw [decide_eq_false h,decide_eq_false e]
theorem key_lr (a:Int) (b:Str):decide ((Sum.inl a:Key)=Sum.inr b)=false:=decide_eq_false (fun q=>nomatch q)
theorem key_rl (a:Str) (b:Int):decide ((Sum.inr a:Key)=Sum.inl b)=false:=decide_eq_false (fun q=>nomatch q)
def mixKind (prog:Program) (w:World):PySem.KeyKind prog w Key where
 is:=keyIs
 hash:=keyH w
 inj:=fun v a b ha hb=>by
  rcases keyIs_shape ha with ⟨i,t,rfl,rfl⟩ | ⟨x,t,rfl,rfl⟩
  ·rcases keyIs_shape hb with ⟨j,u,rfl,e⟩ | ⟨y,u,rfl,e⟩
   ·injection e with e1 _; rw [e1]
   ·exact nomatch e
  ·rcases keyIs_shape hb with ⟨j,u,rfl,e⟩ | ⟨y,u,rfl,e⟩
   ·exact nomatch e
   ·injection e with e1 _; rw [e1]
 byValue:=fun k v h=>by
  rcases keyIs_shape h with ⟨i,t,rfl,rfl⟩ | ⟨x,t,rfl,rfl⟩ <;> rfl
 pyHash:=fun hv h=>by
  rcases keyIs_shape hv with ⟨i,t,rfl,rfl⟩ | ⟨x,t,rfl,rfl⟩
  ·exact wpAny_pyHash_int h
  ·exact wpAny_pyHash_str h
 eqBool:=fun hu hv h=>by
  rcases keyIs_shape hu with ⟨i,t,rfl,rfl⟩ | ⟨x,t,rfl,rfl⟩
  ·rcases keyIs_shape hv with ⟨j,u,rfl,rfl⟩ | ⟨y,u,rfl,rfl⟩
   ·rw [key_ll] at h; exact wpAny_eqBool_int h
   ·rw [key_lr] at h; exact SeqAt.EqAt.int_str i t y u _ _ _ _ h
  ·rcases keyIs_shape hv with ⟨j,u,rfl,rfl⟩ | ⟨y,u,rfl,rfl⟩
   ·rw [key_rl] at h; exact SeqAt.EqAt.str_int x t j u _ _ _ _ h
   ·rw [key_rr] at h; exact wpAny_eqBool_str h
 «strs»:=fun k x t v h=>by
  rcases keyIs_shape h with ⟨i,u,rfl,e⟩ | ⟨y,u,rfl,e⟩
  ·exact nomatch e
  ·injection e with e1 _
   subst e1
   cases v <;> rfl
theorem mixKind_int (prog:Program) (w:World) (i:Int) (t:Tok):(mixKind prog w).is (.inl i) (.int i t)=true:=keyIs_int i t
theorem mixKind_str (prog:Program) (w:World) (x:Str) (t:Tok):(mixKind prog w).is (.inr x) (.str x t)=true:=keyIs_str x t
inductive V where
 | non | bl (b:Bool) | int (i:Int) | str (x:Str) | byt (b:Array UInt8) | flt (b:UInt64) | ref (a:Addr) | ty (n:String)
 deriving DecidableEq
def RelV:V→Value→Prop
 | .non,u=>u=Value.none
 | .bl b,u=>u=Value.bool b
 | .int i,u=>∃ t,u=Value.int i t
 | .str x,u=>∃ t,u=Value.str x t
 | .byt b,u=>∃ t,u=Value.bytes b t
 | .flt b,u=>∃ t,u=Value.float b t
 | .ref a,u=>u=Value.ref a
 | .ty n,u=>u=Value.type n
abbrev Vals:List V→List Value→Prop:=Paired RelV
theorem Vals.length {xs:List V} {us:List Value} (r:Vals xs us):xs.length=us.length:=Paired.length r
theorem Vals.get:∀ {xs:List V} {us:List Value} {i:Nat} {x:V},Vals xs us→xs[i]? = some x→∃ u,us[i]? = some u∧RelV x u
 | _,_,_,_,.nil,e=>by simp at e
 | _,_,0,_,.cons r _,e=>by simp at e; subst e; exact⟨_,rfl,r⟩
 | _,_,i+1,x,.cons _ t,e=>by
  obtain⟨u,h1,h2⟩:=Vals.get (i:=i) (x:=x) t (by simpa using e)
  exact⟨u,by simpa using h1,h2⟩
theorem Vals.set {x:V} {u:Value} (r:RelV x u):∀ {xs:List V} {us:List Value} (i:Nat),Vals xs us→Vals (xs.set i x) (us.set i u)
 | _,_,_,.nil=>.nil
 | _,_,0,.cons _ t=>.cons r t
 | _,_,i+1,.cons q t=>.cons q (Vals.set r i t)
theorem Vals.append:∀ {xs ys:List V} {us ws:List Value},Vals xs us→Vals ys ws→Vals (xs++ys) (us++ws)
 | _,_,_,_,.nil,s=>s
 | _,_,_,_,.cons r t,s=>.cons r (Vals.append t s)
theorem Vals.take:∀ {xs:List V} {us:List Value} (n:Nat),Vals xs us→Vals (xs.take n) (us.take n)
 | _,_,0,_=>.nil
 | _,_,_+1,.nil=>.nil
 | _,_,n+1,.cons r t=>.cons r (Vals.take n t)
theorem Vals.drop:∀ {xs:List V} {us:List Value} (n:Nat),Vals xs us→Vals (xs.drop n) (us.drop n)
 | _,_,0,r=>r
 | _,_,_+1,.nil=>.nil
 | _,_,n+1,.cons _ t=>Vals.drop n t
def RelO:Option V→Option Value→Prop
 | some v,some u=>RelV v u
 | none,none=>True
 | _,_=>False
def KV {κ:Type}:List (κ×V)→List (κ×Value)→Prop:=Paired fun (p:κ×V) (q:κ×Value)=>p.1=q.1∧RelV p.2 q.2
def kV:Key→V
 | .inl i=>.int i
 | .inr x=>.str x
inductive HO where
 | lst (xs:List V)
 | tup (xs:List V)
 | dK (kvs:List (Key×V)) | dT (kvs:List (List Key×V))
 | set (S:Int→Bool) (n:Nat)
 | ins (C dx:Addr) (fs:List (Str×V))
 | own (x:Addr)
 | xd (fs:List (Str×V))
 | met (f x:Addr)
 | rng (lo hi:Int)
 | frz (o:Obj) (u:HO)
 | tbl (ps:Array Value)
 | ext (φ:Heap→Prop)
abbrev Hp:=Addr→Option HO
def upd (H:Hp) (a:Addr) (o:HO):Hp:=fun b=>if b=a then some o else H b
theorem upd_same {H:Hp} {a:Addr} {o:HO}:upd H a o a=some o:=by unfold upd; rw [if_pos rfl]
theorem upd_ne {H:Hp} {a b:Addr} {o:HO} (h:b≠a):upd H a o b=H b:=by unfold upd; rw [if_neg h]
theorem ne_of {H:Hp} {a b:Addr} {o u:HO} (h:H a=some o) (h':H b=some u) (d:o≠u):a≠b:=by
 intro e; subst e; rw [h] at h'; exact d (Option.some.inj h')
theorem ne_of_none {H:Hp} {a b:Addr} {o:HO} (h:H a=some o) (h':H b=none):a≠b:=by
 intro e; subst e; rw [h] at h'; cases h'
section
variable (P:Program) (w:World)
def ObjOk (H:Hp) (h:Heap) (a:Addr):HO→Prop
 | .lst xs=>xs.length≤sizeLine∧∃ (its:List Value) (n:Nat),Vals xs its∧h.get? a=some {cls:=.type "list",data:=.seq its.toArray n}
 | .tup xs=>xs.length≤sizeLine∧∃ its:List Value,Vals xs its∧IsTup h a its.toArray
 | .dK kvs=>kvs.length≤sizeLine∧(a==sysModules)=false∧∃ vs,KV kvs vs∧h.DictOf (mixKind P w) a vs
 | .dT kvs=>kvs.length≤sizeLine∧(a==sysModules)=false∧∃ xs:List (List Key×Addr×Value),
   Paired (fun (p:List Key×V) (q:List Key×Addr×Value)=>p.1=q.1∧H q.2.1=some (.tup (p.1.map kV))∧RelV p.2 q.2.2) kvs xs∧
   ∃ o es ep,h.get? a=some o∧o.ExactDict∧o.data=.dict es ep∧es.toList=xs.map (entryOfKey (tupleKind (mixKind P w)))∧(xs.map (·.1)).Nodup
 | .set S n=>h.SetOf (intKind P w) a S n
 | .ins C dx fs=>H dx=some (.own a)∧fs.length≤1000∧dx≠a∧h.get? a=some (PySem.W.instObj C dx)∧
   ∃ mA,h.Ns1 dx mA∧(∀ f,RelO (fs.lookup f) (mA f))∧PySem.Within mA (fs.map (·.1))
 | .own _=>∃ o,h.get? a=some o
 | .xd fs=>∃ mA,h.Ns1 a mA∧∀ f,RelO (fs.lookup f) (mA f)
 | .rng lo hi=>∃ t u v,h.get? a=some {cls:=.type "range",data:=.fields #[.int lo t,.int hi u,.int 1 v]}
 | .frz o u=>h.get? a=some o∧ObjOk H h a u
 | .tbl ps=>h.get? a=some {cls:=.none,data:=.fields ps}
 | .met f x=>h.get? a=some (PySem.W.methodObj (.ref f) (.ref x))
 | .ext φ=>φ h∧(∃ o,h.get? a=some o)∧∀ h1 h2:Heap,φ h1→(∀ o,h1.get? a=some o→h2.get? a=some o)→φ h2
def HOk (H:Hp) (h:Heap):Prop:=∀ a o,H a=some o→ObjOk P w H h a o
end
section
variable {P:Program} {w:World} {H H':Hp} {h h':Heap} {a:Addr} {o:HO}
theorem ObjOk.lt (x:ObjOk P w H h a o):a<h.objs.size:=by
 cases o with
 | lst xs=>obtain⟨_,_,_,_,e⟩:=x; exact Heap.lt_size e
 | tup xs=>obtain⟨_,_,_,p⟩:=x; exact p.lt
 | dK kvs=>obtain⟨_,_,_,_,o,_,_,e,_⟩:=x; exact Heap.lt_size e
 | dT kvs=>obtain⟨_,_,_,_,o,_,_,e,_⟩:=x; exact Heap.lt_size e
 | set S n=>obtain⟨o,_,_,_,e,_⟩:=x; exact Heap.lt_size e
 | ins C dx fs=>obtain⟨_,_,_,e,_⟩:=x; exact Heap.lt_size e
 | own y=>obtain⟨_,e⟩:=x; exact Heap.lt_size e
 | xd fs=>obtain⟨_,⟨_,_,_,e,_⟩,_⟩:=x; exact Heap.lt_size e
 | rng lo hi=>obtain⟨_,_,_,e⟩:=x; exact Heap.lt_size e
 | frz ob u=>obtain⟨e,_⟩:=x; exact Heap.lt_size e
 | tbl ps=>exact Heap.lt_size (show h.get? a=some _ from x)
 | met f y=>exact Heap.lt_size (show h.get? a=some _ from x)
 | ext φ=>obtain⟨_,⟨_,e⟩,_⟩:=x; exact Heap.lt_size e
theorem Paired.mapP {α β:Type} {F G:α→β→Prop}:∀ {l₁:List α} {l₂:List β},Paired F l₁ l₂→(∀ a b,F a b→G a b)→Paired G l₁ l₂
 | _,_,.nil,_=>.nil
 | _,_,.cons r t,f=>.cons (f _ _ r) (Paired.mapP t f)
theorem ObjOk.stay (x:ObjOk P w H h a o) (k:∀ b u,(b=a∨H b=some (.own a))→h.get? b=some u→h'.get? b=some u)
  (ho:∀ b,H b=some (.own a)→H' b=some (.own a)) (ht:∀ b xs,H b=some (.tup xs)→H' b=some (.tup xs)):ObjOk P w H' h' a o:=by
 induction o with
 | lst xs=>obtain⟨z,its,n,r,e⟩:=x; exact⟨z,its,n,r,k _ _ (.inl rfl) e⟩
 | tup xs=>obtain⟨z,its,r,ob,e,c⟩:=x; exact⟨z,its,r,ob,k _ _ (.inl rfl) e,c⟩
 | dK kvs=>obtain⟨z,y,vs,r,ob,es,ep,e,c⟩:=x; exact⟨z,y,vs,r,ob,es,ep,k _ _ (.inl rfl) e,c⟩
 | dT kvs=>
  obtain⟨z,y,xs,r,ob,es,ep,e,c⟩:=x
  exact⟨z,y,xs,Paired.mapP r fun p q z=>⟨z.1,ht _ _ z.2.1,z.2.2⟩,ob,es,ep,k _ _ (.inl rfl) e,c⟩
 | set S n=>obtain⟨ob,es,ep,t,e,c⟩:=x; exact⟨ob,es,ep,t,k _ _ (.inl rfl) e,c⟩
 | ins C dx fs=>
  obtain⟨d,z,ne,e,mA,⟨od,es,ep,e2,c⟩,r⟩:=x
  exact⟨ho _ d,z,ne,k _ _ (.inl rfl) e,mA,⟨od,es,ep,k _ _ (.inr d) e2,c⟩,r⟩
 | own y=>obtain⟨ob,e⟩:=x; exact⟨ob,k _ _ (.inl rfl) e⟩
 | xd fs=>obtain⟨mA,⟨od,es,ep,e,c⟩,r⟩:=x; exact⟨mA,⟨od,es,ep,k _ _ (.inl rfl) e,c⟩,r⟩
 | rng lo hi=>obtain⟨t,u,v,e⟩:=x; exact⟨t,u,v,k _ _ (.inl rfl) e⟩
 | frz ob u ih=>obtain⟨e,q⟩:=x; exact⟨k _ _ (.inl rfl) e,ih q⟩
 | tbl ps=>
  have e:h.get? a=some {cls:=.none,data:=.fields ps}:=x
  show h'.get? a=some {cls:=.none,data:=.fields ps}
  exact k a _ (.inl rfl) e
 | met f y=>
  have e:h.get? a=some (PySem.W.methodObj (.ref f) (.ref y)):=x
  show h'.get? a=some (PySem.W.methodObj (.ref f) (.ref y))
  exact k a _ (.inl rfl) e
 | ext φ=>obtain⟨p,⟨o,e⟩,st⟩:=x; exact⟨st _ _ p fun o q=>k _ _ (.inl rfl) q,⟨o,k _ _ (.inl rfl) e⟩,st⟩
theorem HOk.lt (x:HOk P w H h) (e:H a=some o):a<h.objs.size:=(x a o e).lt
theorem HOk.fresh (x:HOk P w H h) (e:h.objs.size≤a):H a=none:=by
 cases q:H a with
 | none=>rfl
 | some u=>exact absurd (Nat.lt_of_lt_of_le (x.lt q) e) (Nat.lt_irrefl _)
theorem HOk.kept (x:HOk P w H h) (k:∀ b u,h.get? b=some u→h'.get? b=some u):HOk P w H h':=fun a o e=>
 (x a o e).stay (fun b u _ q=>k b u q) (fun _ q=>q) fun _ _ q=>q
theorem HOk.laid (x:HOk P w H h) (k:∀ b u,h.get? b=some u→h'.get? b=some u) (hp:h.objs.size≤a) (new:ObjOk P w (upd H a o) h' a o):HOk P w (upd H a o) h':=fun b u e=>by
 have hn:=x.fresh hp
 by_cases hb:b=a
 ·subst hb; rw [upd_same] at e; cases e; exact new
 ·rw [upd_ne hb] at e
  exact(x b u e).stay (fun c v _ q=>k c v q) (fun c q=>by rw [upd_ne (ne_of_none q hn)]; exact q) fun c xs q=>by rw [upd_ne (ne_of_none q hn)]; exact q
end
def Rd (H:Hp) (a:Addr) (u:HO):Prop:=H a=some u∨∃ o,H a=some (.frz o u)
theorem Rd.ok {P:Program} {w:World} {H:Hp} {h:Heap} {a:Addr} {u:HO} (r:Rd H a u) (x:HOk P w H h):ObjOk P w H h a u:=by
 rcases r with r | ⟨o,r⟩
 ·exact x a u r
 ·obtain⟨_,q⟩:=x a _ r
  exact q
def Mut:Option HO→Prop
 | some (.lst _)=>True
 | some (.dK _)=>True
 | some (.dT _)=>True
 | some (.set _ _)=>True
 | some (.ins _ _ _)=>True
 | some (.ext _)=>True
 | _=>False
section
variable {P:Program} {w:World} {H:Hp} {h h':Heap} {x e:Addr} {o':HO}
theorem HOk.write (ok:HOk P w H h) (mu:Mut (H x)) (he:e=x∨H e=some (.own x)) (k:∀ b u,b≠e→h.get? b=some u→h'.get? b=some u) (heo:∃ u,h'.get? e=some u)
  (new:ObjOk P w (upd H x o') h' x o'):HOk P w (upd H x o') h':=fun b u q=>by
 have nown:∀ c y,H c=some (.own y)→c≠x:=fun c y r z=>by subst z; rw [r] at mu; exact mu
 have ntup:∀ c xs,H c=some (.tup xs)→c≠x:=fun c xs r z=>by subst z; rw [r] at mu; exact mu
 by_cases hb:b=x
 ·subst hb; rw [upd_same] at q; cases q; exact new
 ·rw [upd_ne hb] at q
  by_cases hbe:b=e
  ·have q':H b=some (.own x):=by
    rcases he with z | z
    ·exact absurd (hbe.trans z) hb
    ·rw [hbe]; exact z
   rw [q] at q'; cases q'
   obtain⟨v,hv⟩:=heo
   exact⟨v,by rw [hbe]; exact hv⟩
  ·refine(ok b u q).stay (fun c v hc r=>k c v ?_ r) (fun c r=>by rw [upd_ne (nown c b r)]; exact r) fun c xs r=>by rw [upd_ne (ntup c xs r)]; exact r
   rcases hc with rfl | hc
   ·exact hbe
   ·rintro rfl
    rcases he with z | z
    ·exact nown c b hc z
    ·rw [hc] at z; cases z; exact hb rfl
end
structure Un (fs ex:List Addr) (H H':Hp) (h h':Heap):Prop where
 keep:∀ b o,h.get? b=some o→H b=none→b∉fs→b∉ex→h'.get? b=some o
 slot:∀ b o,h.get? b=some o→H b=none→b∈fs→b∉ex→∃ sl,h'.get? b=some {o with slots:=sl}
 free:∀ b o,h.get? b=some o→H b=none→b∉ex→H' b=none
 there:∀ b o,h.get? b=some o→b∉ex→∃ o',h'.get? b=some o'
 tups:∀ b xs,H b=some (.tup xs)→H' b=some (.tup xs)
 frzs:∀ b o u,H b=some (.frz o u)→H' b=some (.frz o u)
 tbls:∀ b ps,H b=some (.tbl ps)→∃ more,H' b=some (.tbl (ps++more))
section
variable {fs fs' ex ex':List Addr} {H H1 H2:Hp} {h h1 h2 h':Heap} {a x e:Addr} {o:HO}
theorem Un.any (u:Un fs ex H H1 h h1) {b:Addr} {ob:Obj} (q:h.get? b=some ob) (n:H b=none) (hx:b∉ex):∃ sl,h1.get? b=some {ob with slots:=sl}:=by
 by_cases hb:b∈fs
 ·exact u.slot b ob q n hb hx
 ·exact⟨ob.slots,u.keep b ob q n hb hx⟩
theorem Un.kept (k:∀ b u,h.get? b=some u→h'.get? b=some u):Un fs ex H H h h':=
 ⟨fun b ob q _ _ _=>k b ob q,fun b ob q _ _ _=>⟨ob.slots,k b ob q⟩,fun _ _ _ n _=>n,fun b ob q _=>⟨ob,k b ob q⟩,fun _ _ q=>q,fun _ _ _ q=>q,fun _ ps q=>⟨#[],by rw [q]; simp⟩⟩
theorem Un.refl:Un fs ex H H h h:=Un.kept fun _ _ q=>q
theorem Un.laid (k:∀ b u,h.get? b=some u→h'.get? b=some u) (hp:h.objs.size≤a) (hn:H a=none):Un fs ex H (upd H a o) h h' where
 keep:=fun b u q _ _ _=>k b u q
 slot:=fun b u q _ _ _=>⟨u.slots,k b u q⟩
 free:=fun b u q n _=>by rw [upd_ne (Nat.ne_of_lt (Nat.lt_of_lt_of_le (Heap.lt_size q) hp))]; exact n
 there:=fun b u q _=>⟨u,k b u q⟩
 tups:=fun b xs q=>by rw [upd_ne (ne_of_none q hn)]; exact q
 frzs:=fun b u xs q=>by rw [upd_ne (ne_of_none q hn)]; exact q
 tbls:=fun b ps q=>⟨#[],by rw [upd_ne (ne_of_none q hn),q]; simp⟩
theorem Un.write (mu:Mut (H x)) (he:e=x∨H e=some (.own x)) (k:∀ b u,b≠e→h.get? b=some u→h'.get? b=some u) (heo:∃ u,h'.get? e=some u):Un fs ex H (upd H x o) h h':=by
 have hx:∀ b,H b=none→b≠x:=fun b n z=>by subst z; rw [n] at mu; exact mu
 have hb:∀ b,H b=none→b≠e:=fun b n z=>by
  subst z
  rcases he with r | r
  ·exact hx b n r
  ·rw [n] at r; cases r
 have hm:∀ b u,H b=some u→¬ Mut (some u)→b≠x:=fun b u q nm z=>by subst z; rw [q] at mu; exact nm mu
 refine⟨fun b u q n _ _=>k b u (hb b n) q,fun b u q n _ _=>⟨u.slots,k b u (hb b n) q⟩,fun b u q n _=>by rw [upd_ne (hx b n)]; exact n,fun b u q _=>?_,
  fun b xs q=>by rw [upd_ne (hm b _ q fun z=>z)]; exact q,fun b u xs q=>by rw [upd_ne (hm b _ q fun z=>z)]; exact q,fun b ps q=>⟨#[],by rw [upd_ne (hm b _ q fun z=>z),q]; simp⟩⟩
 by_cases hbe:b=e
 ·subst hbe; exact heo
 ·exact⟨u,k b u hbe q⟩
end
def trk (h:Heap) (H:Hp):List Addr:=(List.range h.objs.size).filter fun a=>(H a).isSome
def hidT (h:Heap) (H:Hp):Heap:=PySem.W.hideAll h (trk h H)
theorem hidT_size (h:Heap) (H:Hp):(hidT h H).objs.size=h.objs.size:=PySem.W.hideAll_size _ _
theorem hidT_get {h:Heap} {H:Hp} {b:Addr} {o:Obj} (e:h.get? b=some o) (n:H b=none):(hidT h H).get? b=some o:=
 PySem.W.hideAll_get _ e fun hm=>by
  have q:(H b).isSome=true:=(List.mem_filter.mp hm).2
  rw [n] at q; simp at q
theorem of_hidT {h:Heap} {H:Hp} {b:Addr} {o:Obj} (e:(hidT h H).get? b=some o):h.get? b=some o∧H b=none:=by
 have e':h.get? b=some o:=PySem.W.of_hideAll (trk h H) e
 refine⟨e',?_⟩
 cases q:H b with
 | none=>rfl
 | some x=>
  have hm:b∈trk h H:=List.mem_filter.mpr ⟨List.mem_range.mpr (Heap.lt_size e'),by simp [q]⟩
  have z:(hidT h H).get? b=none:=PySem.W.hideAll_none (trk h H) hm
  rw [z] at e; cases e
def allNews (g h:Heap) (L:Addr):List (Addr×Obj):=(List.range h.objs.size).filterMap fun a=>if a=L∨(g.get? a).isSome=true then none else (h.get? a).map fun o=>(a,o)
def rest (g h:Heap) (L d:Addr):List (Addr×Obj):=(allNews g h L).filter fun p=>decide (p.1≠d)
structure Mod (K:PySem.W.Frag) (mg:Str→Option Value) (base:Heap):Prop where
 kin:K.In base
 glob:base.Ns mainGlobals mg
 blt:∃ mb,base.Ns builtinsNs mb∧∀ x:Str,x≠"__name__"→mb x=bootBuiltins x
 nolimit:base.NoLimit
 sys:∃ mm,base.Ns sysModules mm
structure Cx where
 prog:Program
 w:World
 K:PySem.W.Frag
 mg:Str→Option Value
 base:Heap
 A:Around
 N:List Str
 s₀:Shared
 H₀:Hp
 env:Env
 outer:List Env
 stack:List Env
 ex:List Addr
 fn:Str→Bool
 calm:Bool
 pn:List (Addr×Obj)
 xe:Value→Shared→Prop
def frs (l:List Env):List Addr:=l.filterMap (·.frame)
abbrev Cx.fs (X:Cx):List Addr:=frs X.outer
def Vis (sc:Scope) (x:Str):Prop:=sc.names.lookup x=some .local∨sc.names.lookup x=some .cell∨sc.names.lookup x=some .free
def Loc (sc:Scope) (x:Str):Prop:=sc.names.lookup x=some .local∨sc.names.lookup x=some .cell
def Look (env:Env) (h:Heap) (m:Str→Option Value) (x:Str) (u:Value):Prop:=
 (env.kindOf x=some .local∧m x=some u)∨((env.kindOf x=some .cell∨env.kindOf x=some .free)∧∃ c,env.cells.lookup x=some c∧h.IsCell c (some u))
structure Cx.Ok (X:Cx):Prop where
 mod:Mod X.K X.mg X.base
 kind:X.env.scope.kind=.function
 glob:X.env.globals=mainGlobals
 blt:X.env.builtins=builtinsNs
 above:X.s₀.heap.objs.size≤X.env.locals
 inj:∀ x y c,X.env.cells.lookup x=some c→X.env.cells.lookup y=some c→x=y
 has:∀ x,(X.env.kindOf x=some .cell∨X.env.kindOf x=some .free)→∃ c,X.env.cells.lookup x=some c
 cab:∀ x c,X.fn x=true→X.env.cells.lookup x=some c→X.s₀.heap.objs.size≤c
 hd:X.calm=true→X.A.handled=none
 frames:X.A.frames=some X.stack
 stk:X.stack=X.outer∨(X.stack=X.env::X.outer∧X.env.frame=some X.env.locals)
 exf:∀ b∈X.ex,b≠X.env.locals∧∀ x c,X.env.cells.lookup x=some c→c≠b
 bs:∀ b o,X.base.get? b=some o→X.s₀.heap.get? b=some o∧X.H₀ b=none
 bsz:X.base.objs.size≤X.s₀.heap.objs.size
 noex:∀ b o,X.base.get? b=some o→b∉X.ex
 exfs:∀ b∈X.ex,b∉X.fs
 funs:X.s₀.heap.FunFrames X.base X.outer
 frf:∀ b∈X.fs,X.H₀ b=none
structure Inv (X:Cx) (pins:List (Addr×Obj)) (σ:List (Option V)) (H:Hp) (s:Shared):Prop where
 ok:X.Ok
 os:s.os=X.s₀.os
 bare:AllBare s.gens
 base:Un X.fs X.ex X.H₀ H X.s₀.heap s.heap
 loc:∃ m,s.heap.Ns X.env.locals m∧∀ (i:Nat) (x:Str) (v:V),X.N[i]? = some x→σ[i]? = some (some v)→Vis X.env.scope x→∃ u,RelV v u∧Look X.env s.heap m x u
 cell:∀ x c,X.env.cells.lookup x=some c→∃ v,s.heap.IsCell c v
 free:H X.env.locals=none
 freeC:∀ x c,X.env.cells.lookup x=some c→H c=none
 pin:∀ p∈X.pn++pins,s.heap.get? p.1=some p.2∧H p.1=none∧p.1≠X.env.locals∧p.1∉X.fs∧∀ v,p.2.data≠.cell v
 hok:HOk X.prog X.w H s.heap
 len:σ.length=X.N.length
section
variable {X:Cx} {pins:List (Addr×Obj)} {σ:List (Option V)} {H H':Hp} {s:Shared} {h':Heap}
theorem Cx.Ok.nofr (ok:X.Ok) {b:Addr} {o:Obj} (e:X.base.get? b=some o):b∉X.fs:=fun hb=>by
 have:=(ok.funs.mem hb).1
 rw [e] at this; cases this
theorem Inv.bs (I:Inv X pins σ H s):∀ b o,X.base.get? b=some o→s.heap.get? b=some o∧H b=none:=fun b o e=>
 ⟨I.base.keep b o (I.ok.bs b o e).1 (I.ok.bs b o e).2 (I.ok.nofr e) (I.ok.noex b o e),I.base.free b o (I.ok.bs b o e).1 (I.ok.bs b o e).2 (I.ok.noex b o e)⟩
theorem Inv.bk (I:Inv X pins σ H s):∀ b o,X.base.get? b=some o→s.heap.get? b=some o:=fun b o e=>(I.bs b o e).1
theorem Inv.mod (I:Inv X pins σ H s):Mod X.K X.mg X.base:=I.ok.mod
theorem Inv.kIn (I:Inv X pins σ H s):X.K.In s.heap:=I.ok.mod.kin.keeps I.bk
theorem Inv.lt (I:Inv X pins σ H s):X.env.locals<s.heap.objs.size:=let ⟨_,hn,_⟩:=I.loc; hn.lt
theorem Inv.sz (I:Inv X pins σ H s):X.s₀.heap.objs.size≤s.heap.objs.size:=Nat.le_trans I.ok.above (Nat.le_of_lt I.lt)
theorem Inv.nofs (I:Inv X pins σ H s) {a:Addr} (h:s.heap.objs.size≤a):a∉X.fs:=fun hb=>by
 obtain⟨_,o,ho,_⟩:=I.ok.funs.mem hb
 exact absurd (Nat.lt_of_lt_of_le (Heap.lt_size ho) (Nat.le_trans I.sz h)) (Nat.lt_irrefl _)
theorem Inv.cne (I:Inv X pins σ H s):∀ x c,X.env.cells.lookup x=some c→c≠X.env.locals:=fun x c e z=>by
 obtain⟨v,o,ho,hd⟩:=I.cell x c e
 obtain⟨m,⟨o',es,ep,ho',hd',_⟩,_⟩:=I.loc
 rw [z,ho'] at ho; cases ho; rw [hd'] at hd; cases hd
theorem Inv.funs (I:Inv X pins σ H s):s.heap.FunFrames X.base X.outer:=by
 have all:∀ (l:List Env),(∀ b∈frs l,b∈X.fs)→X.s₀.heap.FunFrames X.base l→s.heap.FunFrames X.base l:=by
  intro l
  induction l with
  | nil=>intro _ _; trivial
  | cons env r ih=>
   intro hs hl
   obtain⟨hk,⟨L,o,hf,hn,ho,hd⟩,hr⟩:=hl
   have hL:L∈X.fs:=hs L (by unfold frs; rw [List.filterMap_cons,hf]; exact List.mem_cons_self)
   obtain⟨sl,e⟩:=I.base.slot L o ho (I.ok.frf L hL) hL fun z=>I.ok.exfs L z hL
   exact⟨hk,⟨L,_,hf,hn,e,hd⟩,ih (fun b hb=>hs b (by unfold frs; rw [List.filterMap_cons,hf]; exact List.mem_cons_of_mem _ hb)) hr⟩
 exact all X.outer (fun _ hb=>hb) I.ok.funs
theorem Inv.stack (I:Inv X pins σ H s):s.heap.FunFrames X.base X.stack:=by
 rcases I.ok.stk with e | ⟨e,hf⟩
 ·rw [e]; exact I.funs
 ·rw [e]
  obtain⟨m,hn,_⟩:=I.loc
  refine .cons (by rw [I.ok.kind]; decide) hf hn ?_ I.funs
  exact Heap.get?_none_of_le (Nat.le_trans I.ok.bsz I.ok.above)
theorem Inv.stkSub (I:Inv X pins σ H s):∀ b∈frs X.stack,b∈X.env.locals::X.fs:=fun b hb=>by
 rcases I.ok.stk with e | ⟨e,hf⟩
 ·rw [e] at hb; exact List.mem_cons_of_mem _ hb
 ·rw [e] at hb
  unfold frs at hb
  rw [List.filterMap_cons,hf] at hb
  exact hb
theorem Inv.stkFree (I:Inv X pins σ H s):∀ b∈frs X.stack,H b=none:=fun b hb=>by
 rcases List.mem_cons.mp (I.stkSub b hb) with e | hb
 ·rw [e]; exact I.free
 ·obtain⟨_,o,ho,_⟩:=I.ok.funs.mem hb
  exact I.base.free b o ho (I.ok.frf b hb) fun z=>I.ok.exfs b z hb
theorem Inv.step {g':Array GenState} {t':Nat} {d':Drawn} {ch:List Addr} (I:Inv X pins σ H s)
  (hch:∀ b∈ch,(b∈X.ex∨X.s₀.heap.objs.size≤b)∧b≠X.env.locals∧(∀ x c,X.env.cells.lookup x=some c→c≠b)∧∀ p∈X.pn++pins,p.1≠b)
  (keep:∀ b o,b≠X.env.locals→b∉X.fs→b∉ch→s.heap.get? b=some o→H b=none→h'.get? b=some o)
  (slot:∀ b o,b≠X.env.locals→b∈X.fs→b∉ch→s.heap.get? b=some o→H b=none→∃ sl,h'.get? b=some {o with slots:=sl}) (free:∀ b o,b∉ch→s.heap.get? b=some o→H b=none→H' b=none)
  (there:∀ b o,b∉ch→s.heap.get? b=some o→∃ o',h'.get? b=some o')
  (tups:∀ b xs,H b=some (.tup xs)→H' b=some (.tup xs)) (frzs:∀ b o u,H b=some (.frz o u)→H' b=some (.frz o u)) (tbls:∀ b ps,H b=some (.tbl ps)→∃ more,H' b=some (.tbl (ps++more)))
  (ns:∀ m,s.heap.Ns X.env.locals m→h'.Ns X.env.locals m) (hok:HOk X.prog X.w H' h') (hg:AllBare g') :
  Inv X pins σ H' {s with heap:=h',gens:=g',drawn:=d',toks:=t'}:=by
 have neL:∀ b o,X.s₀.heap.get? b=some o→b≠X.env.locals:=fun b o e=>Nat.ne_of_lt (Nat.lt_of_lt_of_le (Heap.lt_size e) I.ok.above)
 have neC:∀ b o,X.s₀.heap.get? b=some o→b∉X.ex→b∉ch:=fun b o e hx hb=>by
  rcases(hch b hb).1 with z | z
  ·exact hx z
  ·exact absurd (Nat.lt_of_lt_of_le (Heap.lt_size e) z) (Nat.lt_irrefl _)
 have cellK:∀ x c,X.env.cells.lookup x=some c→∀ v,s.heap.IsCell c v→h'.IsCell c v:=fun x c e v ⟨o,ho,hd⟩=>by
  have nch:c∉ch:=fun z=>(hch c z).2.2.1 x c e rfl
  by_cases hc:c∈X.fs
  ·obtain⟨sl,q⟩:=slot c o (I.cne x c e) hc nch ho (I.freeC x c e)
   exact⟨_,q,hd⟩
  ·exact⟨o,keep c o (I.cne x c e) hc nch ho (I.freeC x c e),hd⟩
 refine⟨I.ok,I.os,hg,⟨fun b o e n hb hx=>?_,fun b o e n hb hx=>?_,fun b o e n hx=>?_,fun b o e hx=>?_,fun b xs e=>tups b xs (I.base.tups b xs e),fun b o xs e=>frzs b o xs (I.base.frzs b o xs e),fun b ps e=>?_⟩,?_,fun x c e=>?_,?_,fun x c e=>?_,fun p hp=>?_,hok,I.len⟩
 ·exact keep b o (neL b o e) hb (neC b o e hx) (I.base.keep b o e n hb hx) (I.base.free b o e n hx)
 ·obtain⟨sl,e1⟩:=I.base.slot b o e n hb hx
  obtain⟨sl',e2⟩:=slot b _ (neL b o e) hb (neC b o e hx) e1 (I.base.free b o e n hx)
  exact⟨sl',e2⟩
 ·obtain⟨o',e1⟩:=I.base.there b o e hx
  exact free b o' (neC b o e hx) e1 (I.base.free b o e n hx)
 ·obtain⟨o',e1⟩:=I.base.there b o e hx
  exact there b o' (neC b o e hx) e1
 ·obtain⟨m1,e1⟩:=I.base.tbls b ps e
  obtain⟨m2,e2⟩:=tbls b _ e1
  exact⟨m1++m2,by rw [e2,Array.append_assoc]⟩
 ·obtain⟨m,hn,hl⟩:=I.loc
  refine⟨m,ns m hn,fun i x v e1 e2 e3=>?_⟩
  obtain⟨u,r,l⟩:=hl i x v e1 e2 e3
  refine⟨u,r,?_⟩
  rcases l with l | ⟨k,c,e,z⟩
  ·exact .inl l
  ·exact .inr ⟨k,c,e,cellK x c e _ z⟩
 ·obtain⟨v,z⟩:=I.cell x c e
  exact⟨v,cellK x c e v z⟩
 ·obtain⟨m,⟨o,_,_,ho,_⟩,_⟩:=I.loc
  exact free _ o (fun z=>(hch _ z).2.1 rfl) ho I.free
 ·obtain⟨v,o,ho,hd⟩:=I.cell x c e
  exact free c o (fun z=>(hch c z).2.2.1 x c e rfl) ho (I.freeC x c e)
 ·obtain⟨e,n,ne,nf,d⟩:=I.pin p hp
  have nch:p.1∉ch:=fun z=>(hch p.1 z).2.2.2 p hp rfl
  exact⟨keep p.1 p.2 ne nf nch e n,free p.1 p.2 nch e n,ne,nf,d⟩
theorem Inv.un {t':Nat} (I:Inv X pins σ H s) (u:Un X.fs [] H H' s.heap h') (hok:HOk X.prog X.w H' h'):Inv X pins σ H' {s with heap:=h',toks:=t'}:=by
 obtain⟨m,⟨o,es,ep,ho,r⟩,_⟩:=id I.loc
 obtain⟨sl,hL⟩:=u.any ho I.free (by simp)
 exact I.step (g':=s.gens) (d':=s.drawn) (ch:=[]) (fun _ z=>nomatch z) (fun b o _ hb _ e n=>u.keep b o e n hb (by simp)) (fun b o _ hb _ e n=>u.slot b o e n hb (by simp)) (fun b o _ e n=>u.free b o e n (by simp)) (fun b o _ e=>u.there b o e (by simp)) u.tups u.frzs u.tbls (fun m' hm=>by
  obtain⟨o',es',ep',ho',r'⟩:=hm
  rw [ho] at ho'; cases ho'
  exact⟨_,es',ep',hL,r'⟩) hok I.bare
theorem Inv.call {g':Array GenState} {t':Nat} {d':Drawn} {ch:List Addr} (I:Inv X pins σ H s) (u:Un (frs X.stack) ch H H' s.heap h') (hok:HOk X.prog X.w H' h') (hg:AllBare g')
  (hch:∀ b∈ch,(b∈X.ex∨X.s₀.heap.objs.size≤b)∧b≠X.env.locals∧(∀ x c,X.env.cells.lookup x=some c→c≠b)∧∀ p∈X.pn++pins,p.1≠b) :
  Inv X pins σ H' {s with heap:=h',gens:=g',drawn:=d',toks:=t'}:=by
 obtain⟨m,⟨o,es,ep,ho,r⟩,_⟩:=id I.loc
 obtain⟨sl,hL⟩:=u.any ho I.free fun z=>(hch _ z).2.1 rfl
 exact I.step (ch:=ch) hch (fun b o hL hb hc e n=>u.keep b o e n (fun z=>(List.mem_cons.mp (I.stkSub b z)).elim hL hb) hc) (fun b o _ _ hc e n=>u.any e n hc) (fun b o hc e n=>u.free b o e n hc) (fun b o hc e=>u.there b o e hc) u.tups u.frzs u.tbls (fun m' hm=>by
  obtain⟨o',es',ep',ho',r'⟩:=hm
  rw [ho] at ho'; cases ho'
  exact⟨_,es',ep',hL,r'⟩) hok hg
theorem Inv.turned {t':Nat} {it:Addr} (I:Inv X pins σ H s) (k:∀ b o,b≠it→s.heap.get? b=some o→h'.get? b=some o) (hn:H it=none) (hL:it≠X.env.locals)
  (h1:it∈X.ex∨X.s₀.heap.objs.size≤it) (h2:∀ x c,X.env.cells.lookup x=some c→c≠it) (h3:∀ p∈X.pn++pins,p.1≠it):Inv X pins σ H {s with heap:=h',toks:=t'}:=by
 have nit:∀ b u,H b=some u→b≠it:=fun b u e z=>by rw [z,hn] at e; cases e
 refine I.step (g':=s.gens) (d':=s.drawn) (ch:=[it]) (fun b hb=>?_) (fun b o _ _ hc e _=>k b o (fun z=>hc (by simp [z])) e) (fun b o _ _ hc e _=>⟨o.slots,k b o (fun z=>hc (by simp [z])) e⟩) (fun _ _ _ _ n=>n)
  (fun b o hc e=>⟨o,k b o (fun z=>hc (by simp [z])) e⟩) (fun _ _ e=>e) (fun _ _ _ e=>e) (fun b ps e=>⟨#[],by rw [e]; simp⟩) (fun m hm=>?_) (fun b u e=>?_) I.bare
 ·have e:b=it:=by simpa using hb
  subst e
  exact⟨h1,hL,h2,h3⟩
 ·obtain⟨o,es,ep,ho,r⟩:=hm
  exact⟨o,es,ep,k _ o (Ne.symm hL) ho,r⟩
 ·refine(I.hok b u e).stay (fun c v hc q=>k c v ?_ q) (fun _ q=>q) fun _ _ q=>q
  rcases hc with z | z
  ·rw [z]; exact nit b u e
  ·exact nit c _ z
theorem Inv.tok (I:Inv X pins σ H s) (t:Nat):Inv X pins σ H {s with toks:=t}:=I.un (h':=s.heap) (t':=t) Un.refl I.hok
theorem Inv.kept {t':Nat} (I:Inv X pins σ H s) (k:∀ b u,s.heap.get? b=some u→h'.get? b=some u):Inv X pins σ H {s with heap:=h',toks:=t'}:=I.un (Un.kept k) (I.hok.kept k)
theorem Inv.laid {a:Addr} {o:HO} {t':Nat} (I:Inv X pins σ H s) (k:∀ b u,s.heap.get? b=some u→h'.get? b=some u) (hp:s.heap.objs.size≤a) (new:ObjOk X.prog X.w (upd H a o) h' a o) :
  Inv X pins σ (upd H a o) {s with heap:=h',toks:=t'}:=I.un (Un.laid k hp (I.hok.fresh hp)) (I.hok.laid k hp new)
theorem Inv.write {x e:Addr} {o:HO} {t':Nat} (I:Inv X pins σ H s) (mu:Mut (H x)) (he:e=x∨H e=some (.own x)) (k:∀ b u,b≠e→s.heap.get? b=some u→h'.get? b=some u) (heo:∃ u,h'.get? e=some u)
  (new:ObjOk X.prog X.w (upd H x o) h' x o):Inv X pins σ (upd H x o) {s with heap:=h',toks:=t'}:=I.un (Un.write mu he k heo) (I.hok.write mu he k heo new)
theorem Inv.pins_of {pins':List (Addr×Obj)} (I:Inv X pins σ H s) (h:∀ p∈pins',s.heap.get? p.1=some p.2∧H p.1=none∧p.1≠X.env.locals∧p.1∉X.fs∧∀ v,p.2.data≠.cell v):Inv X pins' σ H s:=
 ⟨I.ok,I.os,I.bare,I.base,I.loc,I.cell,I.free,I.freeC,fun p hp=>(List.mem_append.mp hp).elim (fun z=>I.pin p (List.mem_append_left _ z)) (h p),I.hok,I.len⟩
theorem nodup_ix {N:List Str} (hN:N.Nodup) {i j:Nat} {x:Str} (a:N[i]? = some x) (b:N[j]? = some x):i=j:=by
 obtain⟨h1,e1⟩:=List.getElem?_eq_some_iff.mp a
 obtain⟨h2,e2⟩:=List.getElem?_eq_some_iff.mp b
 exact(List.getElem_inj hN).mp (e1.trans e2.symm)
theorem store_ok2 {M:Model} {A:Around} {E:Value→Shared→Prop} {i:Nat} {x:Str} {v:V} {u:Value} {Q:Unit→Shared→Prop} (I:Inv X pins σ H s) (hN:X.N.Nodup) (hi:X.N[i]? = some x) (hx:Loc X.env.scope x) (r:RelV v u)
  (h:∀ s',Inv X pins (σ.set i (some v)) H s'→(∃ a,Heap.SameBut a s.heap s'.heap∧(a=X.env.locals∨X.env.cells.lookup x=some a))→Q () s') (hf:X.fn x=true∨X.env.scope.names.lookup x=some .local:=by first | exact .inl rfl | exact .inr rfl | assumption):wpAny M A (storeName X.env x u) Q E s:=by
 obtain⟨m,hn,hl⟩:=id I.loc
 have hcls:(X.env.scope.kind==.class||(X.env.scope.kind==.module&&X.env.locals != X.env.globals))=false:=by rw [I.ok.kind]; rfl
 have hiσ:i<σ.length:=by rw [I.len]; exact(List.getElem?_eq_some_iff.mp hi).1
 have cne:=I.cne
 have tracked:∀ {a:Addr} {h':Heap},(∃ o,s.heap.get? a=some o∧H a=none)→Heap.SameBut a s.heap h'→HOk X.prog X.w H h':=fun {a h'} ha hs b ob e=>by
  obtain⟨_,_,hfree⟩:=ha
  refine(I.hok b ob e).stay (fun c w' hc q=>(hs.2 c ?_).trans q) (fun _ q=>q) fun _ _ q=>q
  rintro rfl
  rcases hc with rfl | hc
  ·rw [hfree] at e; cases e
  ·rw [hfree] at hc; cases hc
 rcases hx with hk | hk
 ·refine wpAny_storeName_local hk hn (fun h' hn' hs=>?_) hcls
  obtain⟨oL,_,_,hoL,_⟩:=id hn
  refine h _ ⟨I.ok,I.os,I.bare,⟨fun b o e n hb hx=>?_,fun b o e n hb hx=>?_,I.base.free,fun b o e hx=>?_,I.base.tups,I.base.frzs,I.base.tbls⟩,⟨_,hn',fun j y v' e1 e2 e3=>?_⟩,fun y c e=>?_,I.free,I.freeC,fun p hp=>?_,tracked ⟨oL,hoL,I.free⟩ hs,by simpa using I.len⟩ ⟨_,hs,.inl rfl⟩
  ·exact(hs.2 b (Nat.ne_of_lt (Nat.lt_of_lt_of_le (Heap.lt_size e) I.ok.above))).trans (I.base.keep b o e n hb hx)
  ·obtain⟨sl,e1⟩:=I.base.slot b o e n hb hx
   exact⟨sl,(hs.2 b (Nat.ne_of_lt (Nat.lt_of_lt_of_le (Heap.lt_size e) I.ok.above))).trans e1⟩
  ·obtain⟨o',e1⟩:=I.base.there b o e hx
   exact⟨o',(hs.2 b (Nat.ne_of_lt (Nat.lt_of_lt_of_le (Heap.lt_size e) I.ok.above))).trans e1⟩
  ·by_cases hj:j=i
   ·subst hj
    rw [hi] at e1; cases e1
    rw [List.getElem?_set_self hiσ] at e2
    cases e2
    exact⟨u,r,.inl ⟨hk,by simp⟩⟩
   ·rw [List.getElem?_set_ne (Ne.symm hj)] at e2
    obtain⟨u',r',q⟩:=hl j y v' e1 e2 e3
    refine⟨u',r',?_⟩
    rcases q with ⟨k,e⟩ | ⟨k,c,e,z⟩
    ·refine .inl ⟨k,?_⟩
     have : y≠x:=fun e=>hj (nodup_ix hN e1 (e▸hi))
     simp [this,e]
    ·exact .inr ⟨k,c,e,z.sameBut hs (cne y c e)⟩
  ·obtain⟨w',z⟩:=I.cell y c e
   exact⟨w',z.sameBut hs (cne y c e)⟩
  ·obtain⟨e,n,ne,nf,d⟩:=I.pin p hp
   exact⟨(hs.2 p.1 ne).trans e,n,ne,nf,d⟩
 ·have hfn:X.fn x=true:=by
   rcases hf with z | z
   ·exact z
   ·rw [z] at hk; cases hk
  obtain⟨c,hc⟩:=I.ok.has x (.inl hk)
  obtain⟨w',z⟩:=I.cell x c hc
  refine wpAny_storeName_cell I.ok.kind hk hc z (fun h' hc' hs=>?_)
  obtain⟨oc,hoc,hocd⟩:=id z
  refine h {s with heap:=h'} ⟨I.ok,I.os,I.bare,⟨fun b o e n hb hx=>?_,fun b o e n hb hx=>?_,I.base.free,fun b o e hx=>?_,I.base.tups,I.base.frzs,I.base.tbls⟩,⟨m,hn.sameBut hs (Ne.symm (cne x c hc)),fun j y v' e1 e2 e3=>?_⟩,fun y c' e=>?_,I.free,I.freeC,fun p hp=>?_,tracked ⟨oc,hoc,I.freeC x c hc⟩ hs,by simpa using I.len⟩ ⟨c,hs,.inr hc⟩
  ·exact(hs.2 b (Nat.ne_of_lt (Nat.lt_of_lt_of_le (Heap.lt_size e) (I.ok.cab x c hfn hc)))).trans (I.base.keep b o e n hb hx)
  ·obtain⟨sl,e1⟩:=I.base.slot b o e n hb hx
   exact⟨sl,(hs.2 b (Nat.ne_of_lt (Nat.lt_of_lt_of_le (Heap.lt_size e) (I.ok.cab x c hfn hc)))).trans e1⟩
  ·obtain⟨o',e1⟩:=I.base.there b o e hx
   exact⟨o',(hs.2 b (Nat.ne_of_lt (Nat.lt_of_lt_of_le (Heap.lt_size e) (I.ok.cab x c hfn hc)))).trans e1⟩
  ·by_cases hj:j=i
   ·subst hj
    rw [hi] at e1; cases e1
    rw [List.getElem?_set_self hiσ] at e2
    cases e2
    exact⟨u,r,.inr ⟨.inl hk,c,hc,hc'⟩⟩
   ·rw [List.getElem?_set_ne (Ne.symm hj)] at e2
    obtain⟨u',r',q⟩:=hl j y v' e1 e2 e3
    refine⟨u',r',?_⟩
    rcases q with q | ⟨k,c',e,z'⟩
    ·exact .inl q
    ·refine .inr ⟨k,c',e,z'.sameBut hs ?_⟩
     rintro rfl
     exact hj (nodup_ix hN e1 (I.ok.inj _ _ _ e hc▸hi))
  ·by_cases hcc:c'=c
   ·subst hcc; exact⟨_,hc'⟩
   ·obtain⟨w2,z2⟩:=I.cell y c' e
    exact⟨w2,z2.sameBut hs hcc⟩
  ·obtain⟨e,n,ne,nf,d⟩:=I.pin p hp
   refine⟨(hs.2 p.1 ?_).trans e,n,ne,nf,d⟩
   intro q
   rw [q,hoc] at e
   have q':oc=p.2:=Option.some.inj e
   exact d w' (by rw [← q']; exact hocd)
theorem store_ok {M:Model} {A:Around} {E:Value→Shared→Prop} {i:Nat} {x:Str} {v:V} {u:Value} {Q:Unit→Shared→Prop} (I:Inv X pins σ H s) (hN:X.N.Nodup) (hi:X.N[i]? = some x) (hx:Loc X.env.scope x) (r:RelV v u)
  (h:∀ s',Inv X pins (σ.set i (some v)) H s'→Q () s') (hf:X.fn x=true∨X.env.scope.names.lookup x=some .local:=by first | exact .inl rfl | exact .inr rfl | assumption):wpAny M A (storeName X.env x u) Q E s:=
 store_ok2 I hN hi hx r (fun s' I' _=>h s' I') hf
theorem Inv.call' {s':Shared} {ch:List Addr} (I:Inv X pins σ H s) (ho:s'.os=s.os) (u:Un (frs X.stack) ch H H' s.heap s'.heap) (hok:HOk X.prog X.w H' s'.heap) (hg:AllBare s'.gens)
  (hch:∀ b∈ch,(b∈X.ex∨X.s₀.heap.objs.size≤b)∧b≠X.env.locals∧(∀ x c,X.env.cells.lookup x=some c→c≠b)∧∀ p∈X.pn++pins,p.1≠b):Inv X pins σ H' s':=by
 obtain⟨h',g',d',t',o'⟩:=s'
 have e:o'=s.os:=ho
 subst e
 exact I.call (g':=g') (t':=t') (d':=d') u hok hg hch
end
abbrev XK:=Value→Option Addr→Hp→Prop
abbrev St:=List (Option V)
abbrev VK:=V→Hp→Prop
abbrev TE:=St→Hp→VK→Prop
abbrev TT:=St→Hp→(Bool→Hp→Prop)→Prop
abbrev TA:=St→Hp→(List V→Hp→Prop)→Prop
structure Ends where
 nx:St→Hp→Prop
 rt:VK
 bk:St→Hp→Prop:=fun _ _=>False
 ct:St→Hp→Prop:=fun _ _=>False
abbrev TS:=Ends→St→Hp→Prop
def EP (X:Cx) (pins:List (Addr×Obj)) (σ:St) (Q:VK) (u:Value) (s':Shared):Prop:=∃ v H',Inv X pins σ H' s'∧RelV v u∧Q v H'
def TP (X:Cx) (pins:List (Addr×Obj)) (σ:St) (Q:Bool→Hp→Prop) (b:Bool) (s':Shared):Prop:=∃ H',Inv X pins σ H' s'∧Q b H'
def AP (X:Cx) (pins:List (Addr×Obj)) (σ:St) (Q:List V→Hp→Prop) (us:List Value) (s':Shared):Prop:=∃ vs H',Inv X pins σ H' s'∧Vals vs us∧Q vs H'
def SP (X:Cx) (pins:List (Addr×Obj)) (D:Ends) (f:Flow) (s':Shared):Prop:=
 match f with
 | .next=>∃ σ' H',Inv X pins σ' H' s'∧D.nx σ' H'
 | .brk=>∃ σ' H',Inv X pins σ' H' s'∧D.bk σ' H'
 | .cont=>∃ σ' H',Inv X pins σ' H' s'∧D.ct σ' H'
 | .ret u=>∃ v σ' H',Inv X pins σ' H' s'∧RelV v u∧D.rt v H'
def PE (X:Cx) (e:Expr) (t:TE):Prop:=
 ∀ (pins:List (Addr×Obj)) (s:Shared) (σ:St) (H:Hp) (Q:VK),Inv X pins σ H s→t σ H Q→wpAny (model X.prog X.w) X.A (eval e X.env) (EP X pins σ Q) X.xe s
def PT (X:Cx) (e:Expr) (t:TT):Prop:=
 ∀ (pins:List (Addr×Obj)) (s:Shared) (σ:St) (H:Hp) (Q:Bool→Hp→Prop),Inv X pins σ H s→t σ H Q→wpAny (model X.prog X.w) X.A (isTrue e X.env (eval e X.env)) (TP X pins σ Q) X.xe s
def PW (X:Cx) (e:Expr) (t:TT):Prop:=
 ∀ (whole:Sem Value) (pins:List (Addr×Obj)) (s:Shared) (σ:St) (H:Hp) (Q:Bool→Hp→Prop),Inv X pins σ H s→t σ H Q→wpAny (model X.prog X.w) X.A (isTrue e X.env whole) (TP X pins σ Q) X.xe s
theorem PW.pt {X:Cx} {e:Expr} {t:TT} (h:PW X e t):PT X e t:=h _
def PA (X:Cx) (es:List Expr) (t:TA):Prop:=
 ∀ (pos:Pos) (pins:List (Addr×Obj)) (s:Shared) (σ:St) (H:Hp) (Q:List V→Hp→Prop),Inv X pins σ H s→t σ H Q→wpAny (model X.prog X.w) X.A (spliced (backTo pos (starEach es X.env))) (AP X pins σ Q) X.xe s
def PS (X:Cx) (st:Stmt) (t:TS):Prop:=
 ∀ (pins:List (Addr×Obj)) (s:Shared) (σ:St) (H:Hp) (D:Ends),Inv X pins σ H s→t D σ H→wpAny (model X.prog X.w) X.A (exec st X.env) (SP X pins D) X.xe s
def PSs (X:Cx) (st:List Stmt) (t:TS):Prop:=
 ∀ (pins:List (Addr×Obj)) (s:Shared) (σ:St) (H:Hp) (D:Ends),Inv X pins σ H s→t D σ H→wpAny (model X.prog X.w) X.A (execs st X.env) (SP X pins D) X.xe s
theorem thn {α:Type} {t:Sem α} {Q Q':α→Shared→Prop} {M:Model} {A:Around} {E:Value→Shared→Prop} {s:Shared} (h:wpAny M A t Q E s) (hQ:∀ a s,Q a s→Q' a s):wpAny M A t Q' E s:=wpAny_mono h hQ fun _ _ x=>x
section
variable {X:Cx}
def tVar (i:Nat):TE:=fun σ H Q=>∃ v,σ[i]? = some (some v)∧Q v H
def tC (v:V):TE:=fun _ H Q=>Q v H
theorem pe_var {i:Nat} {x:Str} {pos:Pos} (hN:X.N[i]? = some x) (hv:Vis X.env.scope x) (hd:(x==("__debug__":Str))=false:=by decide) (hcd:(x==("__classdict__":Str))=false:=by decide):PE X (.Name x pos) (tVar i):=by
 intro pins s σ H Q I h
 obtain⟨v,e,h⟩:=h
 obtain⟨m,hn,hl⟩:=I.loc
 obtain⟨u,r,l⟩:=hl i x v hN e hv
 have fin:EP X pins σ Q u s:=⟨v,H,I,r,h⟩
 rcases l with ⟨hk,hm⟩ | ⟨hk,c,hc,hcell⟩
 ·exact wpAny_Name (wpAny_loadName_local I.ok.kind hk hn hm fin) hd
 ·rcases hk with hk | hk
  ·exact wpAny_Name (wpAny_loadName_cell I.ok.kind hk hc hcell fin) hd
  ·exact wpAny_Name (wpAny_loadName_free I.ok.kind hk hc hcell fin hcd) hd
theorem pe_int {i j pos}:PE X (.Constant (.int i) j pos) (tC (.int i)):=fun _ _ _ H _ I h=>wpAny_Constant_int ⟨.int i,H,I.tok _,⟨_,rfl⟩,h⟩
theorem pe_bl {b j pos}:PE X (.Constant (.bool b) j pos) (tC (.bl b)):=fun _ _ _ H _ I h=>Constant_bool ⟨.bl b,H,I,rfl,h⟩
theorem pe_non {j pos}:PE X (.Constant .none j pos) (tC .non):=fun _ _ _ H _ I h=>Constant_none ⟨.non,H,I,rfl,h⟩
theorem pe_str {x j pos}:PE X (.Constant (.str x) j pos) (tC (.str x)):=fun _ _ _ H _ I h=>Calls.Constant_str ⟨.str x,H,I.tok _,⟨_,rfl⟩,h⟩
def Gl (X:Cx) (x:Str):Prop:=X.env.kindOf x=some .globalImplicit
theorem ld_glob {E:Value→Shared→Prop} {pins:List (Addr×Obj)} {s:Shared} {σ:St} {H:Hp} {x:Str} {u:Value} {pos:Pos} {Q:Value→Shared→Prop} (I:Inv X pins σ H s) (hg:Gl X x) (hm:X.mg x=some u) (h:Q u s)
  (hd:(x==("__debug__":Str))=false:=by decide):wpAny (model X.prog X.w) X.A (eval (.Name x pos) X.env) Q E s:=
 Calls.Name_function_global I.ok.kind hg (Calls.loadGlobal_global (by rw [I.ok.glob]; exact I.mod.glob.keeps I.bk) hm h) hd
theorem ld_blt {E:Value→Shared→Prop} {pins:List (Addr×Obj)} {s:Shared} {σ:St} {H:Hp} {x:Str} {u:Value} {pos:Pos} {Q:Value→Shared→Prop} (I:Inv X pins σ H s) (hg:Gl X x) (hm:X.mg x=none) (hv:bootBuiltins x=some u) (h:Q u s)
  (hn:x≠"__name__":=by decide) (hd:(x==("__debug__":Str))=false:=by decide):wpAny (model X.prog X.w) X.A (eval (.Name x pos) X.env) Q E s:=by
 obtain⟨mb,h1,h2⟩:=I.mod.blt
 exact Calls.Name_function_global I.ok.kind hg (Calls.loadGlobal_builtin (by rw [I.ok.glob]; exact I.mod.glob.keeps I.bk) hm (by rw [I.ok.blt]; exact h1.keeps I.bk) ((h2 x hn).trans hv) h) hd
theorem pe_glob {x:Str} {v:V} {u:Value} {pos:Pos} (hg:Gl X x) (hm:X.mg x=some u) (r:RelV v u) (hd:(x==("__debug__":Str))=false:=by decide):PE X (.Name x pos) (tC v):=
 fun _ _ _ H _ I h=>ld_glob I hg hm ⟨v,H,I,r,h⟩ hd
theorem pe_bltn {x:Str} {v:V} {u:Value} {pos:Pos} (hg:Gl X x) (hm:X.mg x=none) (hv:bootBuiltins x=some u) (r:RelV v u) (hn:x≠"__name__":=by decide) (hd:(x==("__debug__":Str))=false:=by decide):PE X (.Name x pos) (tC v):=
 fun _ _ _ H _ I h=>ld_blt I hg hm hv ⟨v,H,I,r,h⟩ hn hd
variable {a b:Expr} {ta tb:TE} {pos:Pos}
def PC (X:Cx) (op:CmpOp) (a b:Expr) (t:TE):Prop:=
 ∀ (pins:List (Addr×Obj)) (s:Shared) (σ:St) (H:Hp) (Q:VK),Inv X pins σ H s→t σ H Q→
  wpAny (model X.prog X.w) X.A (eval a X.env) (fun v s₁=>wpAny (model X.prog X.w) X.A (eval b X.env) (fun u s₂=>wpAny (model X.prog X.w) X.A (compareOp op v u) (EP X pins σ Q) X.xe s₂) X.xe s₁) X.xe s
def tB (t:TE):TT:=fun σ H Q=>t σ H fun x H1=>∃ c,x=.bl c∧Q c H1
theorem pt_cmp {op:CmpOp} {t:TE} (h:PC X op a b t) (h1:behindInMarks op b=false:=by first | exact nobehind _ (by decide) (by decide) | rfl):PT X (.Compare a [op] [b] pos) (tB t):=by
 intro pins s σ H Q I hw
 refine wpAny_isTrue_Compare1 (thn (h pins s σ H _ I hw) fun v s1 h1=>thn h1 fun u s2 h2=>thn h2 fun c s3 ⟨x,H1,I1,r1,q1⟩=>?_) h1
 obtain⟨d,rfl,q⟩:=q1
 cases r1
 exact wpAny_truthy_bool ⟨H1,I1,q⟩
theorem pt_val {e:Expr} {t:TE} (h:PE X e t) (he:∀ whole,isTrue e X.env whole=(do let v ← whole; standAt e.pos; holding [v] (truthy v)):=by intro _; rfl):PT X e (tB t):=by
 intro pins s σ H Q I hw
 refine isTrue_plain (thn (h pins s σ H _ I hw) fun v s1 ⟨x,H1,I1,r1,q1⟩=>?_) (he _)
 obtain⟨d,rfl,q⟩:=q1
 cases r1
 exact wpAny_truthy_bool ⟨H1,I1,q⟩
variable {tA tB':TT} {rest:List Expr}
def tAnd (t u:TT):TT:=fun σ H Q=>t σ H fun c H1=>if c=true then u σ H1 Q else Q false H1
def tOr (t u:TT):TT:=fun σ H Q=>t σ H fun c H1=>if c=true then Q true H1 else u σ H1 Q
def tNot (t:TT):TT:=fun σ H Q=>t σ H fun c H1=>Q (!c) H1
theorem pw_and1 (ha:PT X a tA):PW X (.BoolOp .And [a] pos) tA:=by
 intro wh pins s σ H Q I h
 refine isTrue_and (thn (ha pins s σ H Q I h) fun c s1 e=>?_)
 cases c with
 | true=>exact isTrue_and_nil e
 | false=>exact e
theorem pw_or1 (ha:PT X a tA):PW X (.BoolOp .Or [a] pos) tA:=by
 intro wh pins s σ H Q I h
 refine isTrue_or (thn (ha pins s σ H Q I h) fun c s1 e=>?_)
 cases c with
 | false=>exact isTrue_or_nil e
 | true=>exact e
theorem pw_and (ha:PT X a tA) (hb:PW X (.BoolOp .And (b::rest) pos) tB'):PW X (.BoolOp .And (a::b::rest) pos) (tAnd tA tB'):=by
 intro wh pins s σ H Q I h
 refine isTrue_and (thn (ha pins s σ H _ I h) fun c s1 ⟨H1,I1,q1⟩=>?_)
 cases c with
 | true=>exact hb wh pins s1 σ H1 Q I1 q1
 | false=>exact⟨H1,I1,q1⟩
theorem pw_or (ha:PT X a tA) (hb:PW X (.BoolOp .Or (b::rest) pos) tB'):PW X (.BoolOp .Or (a::b::rest) pos) (tOr tA tB'):=by
 intro wh pins s σ H Q I h
 refine isTrue_or (thn (ha pins s σ H _ I h) fun c s1 ⟨H1,I1,q1⟩=>?_)
 cases c with
 | true=>exact⟨H1,I1,q1⟩
 | false=>exact hb wh pins s1 σ H1 Q I1 q1
theorem pt_not (ha:PT X a tA):PT X (.UnaryOp .Not a pos) (tNot tA):=by
 intro pins s σ H Q I h
 exact isTrue_not (ha pins s σ H (fun c H1=>Q (!c) H1) I h)
end
def SqL (K:PySem.W.Frag) (H:Hp) (a:Addr) (xs:List V):Prop:=
 Rd H a (.lst xs)∨
  ∃ (o:Obj) (its:Array Value) (n:Nat),K.lookup a=some o∧o.cls=.type "list"∧o.dict=none∧o.data=.seq its n∧its.size≤sizeLine∧Vals xs its.toList
def SqT (K:PySem.W.Frag) (H:Hp) (a:Addr) (xs:List V):Prop:=
 Rd H a (.tup xs)∨
  ∃ (o:Obj) (its:Array Value) (n:Nat),K.lookup a=some o∧o.cls=.type "tuple"∧o.data=.seq its n∧its.size≤sizeLine∧Vals xs its.toList
def absV:Value→Option V
 | .none=>some .non
 | .bool b=>some (.bl b)
 | .int i _=>some (.int i)
 | .str x _=>some (.str x)
 | .bytes b _=>some (.byt b)
 | .float b _=>some (.flt b)
 | .ref a=>some (.ref a)
 | .type n=>some (.ty n)
 | _=>none
theorem RelV.abs {x:V} {u:Value} (r:RelV x u):absV u=some x:=by
 cases x with
 | non=>cases r; rfl
 | bl _=>cases r; rfl
 | int _=>obtain⟨t,rfl⟩:=r; rfl
 | str _=>obtain⟨t,rfl⟩:=r; rfl
 | byt _=>obtain⟨t,rfl⟩:=r; rfl
 | flt _=>obtain⟨t,rfl⟩:=r; rfl
 | ref _=>cases r; rfl
 | ty _=>cases r; rfl
theorem RelV.inj {x y:V} {u:Value} (r:RelV x u) (q:RelV y u):x=y:=Option.some.inj (r.abs.symm.trans q.abs)
theorem Vals.inj:∀ {xs ys:List V} {us:List Value},Vals xs us→Vals ys us→xs=ys
 | _,_,_,.nil,.nil=>rfl
 | _,_,_,.cons r t,.cons r' t'=>by rw [r.inj r',Vals.inj t t']
section
variable {X:Cx} {pins:List (Addr×Obj)} {σ:St} {H:Hp} {s:Shared} {a:Addr} {xs ys:List V}
theorem SqL.of {K:PySem.W.Frag} (h:H a=some (.lst xs)):SqL K H a xs:=.inl (.inl h)
theorem SqT.of {K:PySem.W.Frag} (h:H a=some (.tup xs)):SqT K H a xs:=.inl (.inl h)
theorem Inv.list (I:Inv X pins σ H s) (h:SqL X.K H a xs):∃ its:List Value,Vals xs its∧PlainL s.heap a its.toArray∧xs.length≤sizeLine:=by
 rcases h with h | ⟨o,its,n,hk,hc,hd,hs,hz,r⟩
 ·obtain⟨z,its,n,r,e⟩:=h.ok I.hok
  exact⟨its,r,⟨_,n,e,rfl,rfl,rfl⟩,z⟩
 ·refine⟨its.toList,r,⟨o,n,I.kIn a o hk,hc,hd,by simpa using hs⟩,?_⟩
  have e:=r.length
  simp only [Array.length_toList] at e
  omega
theorem Inv.tuple (I:Inv X pins σ H s) (h:SqT X.K H a xs):∃ its:List Value,Vals xs its∧IsTup s.heap a its.toArray∧xs.length≤sizeLine:=by
 rcases h with h | ⟨o,its,n,hk,hc,hs,hz,r⟩
 ·obtain⟨z,its,r,p⟩:=h.ok I.hok
  exact⟨its,r,p,z⟩
 ·refine⟨its.toList,r,⟨o,I.kIn a o hk,hc,n,by simpa using hs⟩,?_⟩
  have e:=r.length
  simp only [Array.length_toList] at e
  omega
theorem Inv.list_inj (I:Inv X pins σ H s) (h:SqL X.K H a xs) (h':SqL X.K H a ys):xs=ys:=by
 obtain⟨its,r,⟨o,n,e,_,_,d⟩,_⟩:=I.list h
 obtain⟨its',r',⟨o',n',e',_,_,d'⟩,_⟩:=I.list h'
 rw [e] at e'; cases e'
 rw [d] at d'
 injection d' with d1 _
 have : its=its':=by simpa using congrArg Array.toList d1
 subst this
 exact r.inj r'
theorem Inv.tuple_inj (I:Inv X pins σ H s) (h:SqT X.K H a xs) (h':SqT X.K H a ys):xs=ys:=by
 obtain⟨its,r,⟨o,e,_,n,d⟩,_⟩:=I.tuple h
 obtain⟨its',r',⟨o',e',_,n',d'⟩,_⟩:=I.tuple h'
 rw [e] at e'; cases e'
 rw [d] at d'
 injection d' with d1 _
 have : its=its':=by simpa using congrArg Array.toList d1
 subst this
 exact r.inj r'
end
abbrev Cx.wish (X:Cx) (E:Value→Shared→Prop):Cx:={X with xe:=E}
abbrev Cx.nox (X:Cx):Cx:=X.wish fun _ _=>False
theorem Cx.Ok.wish {X:Cx} (ok:X.Ok) (E:Value→Shared→Prop):(X.wish E).Ok:=
 ⟨ok.mod,ok.kind,ok.glob,ok.blt,ok.above,ok.inj,ok.has,ok.cab,ok.hd,ok.frames,ok.stk,ok.exf,ok.bs,ok.bsz,ok.noex,ok.exfs,ok.funs,ok.frf⟩
theorem Cx.Ok.unwish {X:Cx} {E:Value→Shared→Prop} (ok:(X.wish E).Ok):X.Ok:=
 ⟨ok.mod,ok.kind,ok.glob,ok.blt,ok.above,ok.inj,ok.has,ok.cab,ok.hd,ok.frames,ok.stk,ok.exf,ok.bs,ok.bsz,ok.noex,ok.exfs,ok.funs,ok.frf⟩
section
variable {X:Cx} {pins:List (Addr×Obj)} {σ:St} {H:Hp} {s:Shared} {E:Value→Shared→Prop}
theorem Inv.wish (I:Inv X pins σ H s) (E:Value→Shared→Prop):Inv (X.wish E) pins σ H s:=⟨I.ok.wish E,I.os,I.bare,I.base,I.loc,I.cell,I.free,I.freeC,I.pin,I.hok,I.len⟩
theorem Inv.unwish (I:Inv (X.wish E) pins σ H s):Inv X pins σ H s:=⟨I.ok.unwish,I.os,I.bare,I.base,I.loc,I.cell,I.free,I.freeC,I.pin,I.hok,I.len⟩
theorem SP.unwish {D:Ends} {f:Flow} {s':Shared} (h:SP (X.wish E) pins D f s'):SP X pins D f s':=by
 cases f with
 | next=>obtain⟨σ',H',I,q⟩:=h; exact⟨σ',H',I.unwish,q⟩
 | brk=>obtain⟨σ',H',I,q⟩:=h; exact⟨σ',H',I.unwish,q⟩
 | cont=>obtain⟨σ',H',I,q⟩:=h; exact⟨σ',H',I.unwish,q⟩
 | ret u=>obtain⟨v,σ',H',I,r,q⟩:=h; exact⟨v,σ',H',I.unwish,r,q⟩
theorem PE.nox {e:Expr} {t:TE} (h:PE X.nox e t):PE X e t:=fun pins s σ H Q I hw=>
 wpAny_mono (h pins s σ H Q (I.wish _) hw) (fun _ _ ⟨v,H',I',r,q⟩=>⟨v,H',I'.unwish,r,q⟩) fun _ _ z=>False.elim z
theorem PT.nox {e:Expr} {t:TT} (h:PT X.nox e t):PT X e t:=fun pins s σ H Q I hw=>
 wpAny_mono (h pins s σ H Q (I.wish _) hw) (fun _ _ ⟨H',I',q⟩=>⟨H',I'.unwish,q⟩) fun _ _ z=>False.elim z
theorem PSs.nox {st:List Stmt} {t:TS} (h:PSs X.nox st t):PSs X st t:=fun pins s σ H D I hw=>
 wpAny_mono (h pins s σ H D (I.wish _) hw) (fun _ _ q=>q.unwish) fun _ _ z=>False.elim z
end
section
variable {X:Cx} {st:Stmt} {rest:List Stmt} {t u:TS} {e:Expr} {te:TE} {pos:Pos}
def tNext:TS:=fun D σ H=>D.nx σ H
def tSeq (t u:TS):TS:=fun D σ H=>t {D with nx:=u D} σ H
theorem pss_nil:PSs X [] tNext:=fun _ _ σ H _ I h=>wpAny_execs_nil ⟨σ,H,I,h⟩
theorem pss_cons (h1:PS X st t) (h2:PSs X rest u):PSs X (st::rest) (tSeq t u):=by
 intro pins s σ H D I h
 refine wpAny_execs_cons (thn (h1 pins s σ H {D with nx:=u D} I h) fun f s1 q=>?_)
 cases f with
 | next=>
  obtain⟨σ',H',I',q⟩:=q
  exact h2 pins s1 σ' H' D I' q
 | ret v=>exact q
 | brk=>exact q
 | cont=>exact q
theorem pss_one (h1:PS X st t):PSs X [st] t:=by
 intro pins s σ H D I h
 refine wpAny_execs_cons (thn (h1 pins s σ H D I h) fun f s1 q=>?_)
 cases f with
 | next=>exact wpAny_execs_nil q
 | ret v=>exact q
 | brk=>exact q
 | cont=>exact q
theorem Inv.quiet {pins:List (Addr×Obj)} {σ:St} {H:Hp} {s:Shared} (I:Inv X pins σ H s):interactive X.env=false:=by simp [interactive,I.ok.kind]
def tDrop (te:TE):TS:=fun D σ H=>te σ H fun _ H1=>D.nx σ H1
theorem ps_expr (he:PE X e te) (hs:swapsWith e none pos.line X.env=pure false:=by rfl):PS X (.Expr e pos) (tDrop te):=by
 intro pins s σ H D I h
 exact wpAny_Expr_any (thn (he pins s σ H _ I h) fun v s1 ⟨x,H1,I1,r1,q1⟩=>⟨σ,H1,I1,q1⟩) I.quiet hs
def tRet (te:TE):TS:=fun D σ H=>te σ H D.rt
theorem ps_ret (he:PE X e te):PS X (.Return (some e) pos) (tRet te):=by
 intro pins s σ H D I h
 exact wpAny_Return_some (thn (he pins s σ H _ I h) fun v s1 ⟨x,H1,I1,r1,q1⟩=>⟨x,σ,H1,I1,r1,q1⟩)
def tIfS (c:TT) (t u:TS):TS:=fun D σ H=>c σ H fun b H1=>if b=true then t D σ H1 else u D σ H1
theorem ps_if {c:Expr} {a b:List Stmt} {tc:TT} (hc:PT X c tc) (ha:PSs X a t) (hb:PSs X b u):PS X (.If c a b pos) (tIfS tc t u):=by
 intro pins s σ H D I h
 refine wpAny_If (thn (hc pins s σ H _ I h) fun d s1 ⟨H1,I1,q1⟩=>?_)
 cases d with
 | true=>exact ha pins s1 σ H1 D I1 q1
 | false=>exact hb pins s1 σ H1 D I1 q1
def tNever:TS:=fun _ _ _=>False
theorem ps_never:PS X st tNever:=fun _ _ _ _ _ _ h=>h.elim
end
abbrev TG:=V→St→Hp→(St→Hp→Prop)→Prop
abbrev TGs:=List V→St→Hp→(St→Hp→Prop)→Prop
def PG (X:Cx) (target:Expr) (t:TG):Prop:=
 ∀ (pins:List (Addr×Obj)) (s:Shared) (σ:St) (H:Hp) (v:V) (u:Value) (Q:St→Hp→Prop),Inv X pins σ H s→RelV v u→t v σ H Q→
  wpAny (model X.prog X.w) X.A (assign target X.env u) (fun _ s'=>∃ σ' H',Inv X pins σ' H' s'∧Q σ' H') X.xe s
def PGs (X:Cx) (ts:List Expr) (t:TGs):Prop:=
 ∀ (pins:List (Addr×Obj)) (s:Shared) (σ:St) (H:Hp) (vs:List V) (us:List Value) (Q:St→Hp→Prop),Inv X pins σ H s→Vals vs us→t vs σ H Q→
  wpAny (model X.prog X.w) X.A (assignInOrder ((assignEach ts X.env).map (·.2)) us) (fun _ s'=>∃ σ' H',Inv X pins σ' H' s'∧Q σ' H') X.xe s
abbrev TSet:=V→V→V→Hp→(Hp→Prop)→Prop
def PSet (X:Cx) (t:TSet):Prop:=
 ∀ (pins:List (Addr×Obj)) (s:Shared) (σ:St) (H:Hp) (o i v:V) (ov iv u:Value) (Q:Hp→Prop),Inv X pins σ H s→RelV o ov→RelV i iv→RelV v u→t o i v H Q→
  wpAny (model X.prog X.w) X.A (setItem ov iv u) (fun _ s'=>∃ H',Inv X pins σ H' s'∧Q H') X.xe s
abbrev TIp:=V→V→Hp→VK→Prop
def PIp (X:Cx) (op:Operator) (t:TIp):Prop:=
 ∀ (pins:List (Addr×Obj)) (s:Shared) (σ:St) (H:Hp) (x y:V) (v u:Value) (Q:VK),Inv X pins σ H s→RelV x v→RelV y u→t x y H Q→
  wpAny (model X.prog X.w) X.A (inplaceOp op v u) (EP X pins σ Q) X.xe s
section
variable {X:Cx} {pos:Pos}
def gName (i:Nat):TG:=fun v σ H Q=>Q (σ.set i (some v)) H
theorem pg_name {i:Nat} {x:Str} (hN:X.N.Nodup) (hi:X.N[i]? = some x) (hx:Loc X.env.scope x) (hf:X.fn x=true∨X.env.scope.names.lookup x=some .local:=by first | exact .inl rfl | exact .inr rfl | assumption):PG X (.Name x pos) (gName i):=by
 intro pins s σ H v u Q I r h
 exact wpAny_assign_Name (store_ok I hN hi hx r (fun s' I'=>⟨_,H,I',h⟩) hf)
def gNil:TGs:=fun vs σ H Q=>vs=[]∧Q σ H
def gCons (t:TG) (u:TGs):TGs:=fun vs σ H Q=>∃ v r,vs=v::r∧t v σ H fun σ' H'=>u r σ' H' Q
theorem pgs_nil:PGs X [] gNil:=by
 intro pins s σ H vs us Q I r h
 obtain⟨e,h⟩:=h
 subst e
 cases r
 exact assignInOrder_nil ⟨σ,H,I,h⟩
theorem pgs_cons {e:Expr} {es:List Expr} {t:TG} {u:TGs} (h1:PG X e t) (h2:PGs X es u)
  (hs:(assignEach (e::es) X.env).map (·.2)=assign e X.env::(assignEach es X.env).map (·.2):=by rfl):PGs X (e::es) (gCons t u):=by
 intro pins s σ H vs us Q I r h
 obtain⟨v,vr,e1,h⟩:=h
 subst e1
 cases r with
 | cons r rr=>
  rw [hs]
  refine assignInOrder_cons (thn (h1 pins s σ H _ _ _ I r h) fun _ s1 ⟨σ1,H1,I1,q1⟩=>?_)
  exact h2 pins s1 σ1 H1 _ _ Q I1 rr q1
def gTup (K:PySem.W.Frag) (n:Nat) (t:TGs):TG:=fun v σ H Q=>∃ a xs,v=.ref a∧SqT K H a xs∧xs.length=n∧t xs σ H Q
theorem pg_tup {es:List Expr} {k:Nat} {t:TGs} {n:Nat} (hc:X.calm=true) (h:PGs X es t)
  (hn:(assignEach es X.env).length=n:=by rfl) (hst:(assignEach es X.env).findIdx? (·.1)=none:=by rfl):PG X (.Tuple es k pos) (gTup X.K n t):=by
 intro pins s σ H v u Q I r hw
 obtain⟨a,xs,e1,hq,hl,hw⟩:=hw
 subst e1
 cases r
 obtain⟨its,rv,ht,hz⟩:=I.tuple hq
 refine assign_Tuple_tuple (I.ok.hd hc) ht (by simp [hn,← hl,rv.length]) hst fun h' hx=>?_
 have I1:Inv X pins σ H {s with heap:=h'}:=I.kept (t':=s.toks) fun b o e=>hx b o (Nat.ne_of_lt (Heap.lt_size e)) e
 exact h pins _ σ H xs _ Q I1 (by simpa using rv) hw
def gSub (to ti:TE) (t:TSet):TG:=fun v σ H Q=>to σ H fun o H1=>ti σ H1 fun i H2=>t o i v H2 fun H3=>Q σ H3
theorem pg_sub {o i:Expr} {to ti:TE} {t:TSet} (ho:PE X o to) (hi:PE X i ti) (hs:PSet X t)
  (ha:∀ v,assign (.Subscript o i pos) X.env v=(do
   let ov ← holding [v] (eval o X.env)
   let iv ← holding [v,ov] (eval i X.env)
   standAt pos
   holding [v,ov,iv] (setItem ov iv v)
   release [v,ov,iv] []):=by intro _; rfl):PG X (.Subscript o i pos) (gSub to ti t):=by
 intro pins s σ H v u Q I r h
 rw [ha]
 refine wpAny_bind (wpAny_holding (thn (ho pins s σ H _ I h) fun ov s1 ⟨x,H1,I1,r1,q1⟩=>?_))
 refine wpAny_bind (wpAny_holding (thn (hi pins s1 σ H1 _ I1 q1) fun iv s2 ⟨y,H2,I2,r2,q2⟩=>?_))
 refine wpAny_bind (wpAny_standAt (wpAny_bind (wpAny_holding (thn (hs pins s2 σ H2 x y v ov iv u _ I2 r1 r2 r q2) fun _ s3 ⟨H3,I3,q3⟩=>?_))))
 exact wpAny_release ⟨σ,H3,I3,q3⟩
def tAsg (te:TE) (g:TG):TS:=fun D σ H=>te σ H fun x H1=>g x σ H1 D.nx
theorem ps_asg {tg e:Expr} {te:TE} {g:TG} (he:PE X e te) (hg:PG X tg g) (hs:swapsWithSole [tg] e pos.line X.env=pure false:=by rfl) (hw:swappedStores [tg] e X.env=pure none:=by rfl)
  (h1:(assignEach [tg] X.env).map (·.2)=[assign tg X.env]:=by rfl):PS X (.Assign [tg] e pos) (tAsg te g):=by
 intro pins s σ H D I h
 refine wpAny_Assign_stores (thn (he pins s σ H _ I h) fun v s1 ⟨x,H1,I1,r1,q1⟩=>?_) hs hw
 rw [h1]
 exact thn (hg pins s1 σ H1 x v _ I1 r1 q1) fun _ s2 q=>q
theorem ps_set {i:Nat} {x:Str} {e:Expr} {te:TE} {pos':Pos} (hN:X.N.Nodup) (hi:X.N[i]? = some x) (hx:Loc X.env.scope x) (he:PE X e te) (hs:swapsWith e (some (.Name x pos')) pos.line X.env=pure false:=by rfl) (hf:X.fn x=true∨X.env.scope.names.lookup x=some .local:=by first | exact .inl rfl | exact .inr rfl | assumption) :
  PS X (.Assign [.Name x pos'] e pos) (tAsg te (gName i)):=by
 intro pins s σ H D I h
 refine wpAny_Assign_Name (thn (he pins s σ H _ I h) fun v s1 ⟨y,H1,I1,r1,q1⟩=>?_) hs
 exact store_ok I1 hN hi hx r1 (fun s2 I2=>⟨_,H1,I2,q1⟩) hf
def tPar (i j:Nat) (ta:TA):TS:=fun D σ H=>ta σ H fun vs H1=>∃ v w,vs=[v,w]∧D.nx ((σ.set i (some v)).set j (some w)) H1
theorem ps_par {i j:Nat} {x y:Str} {a b:Expr} {ta:TA} {px py pt:Pos} {kt k2 pt2} (hc:X.calm=true) (hN:X.N.Nodup) (hi:X.N[i]? = some x) (hj:X.N[j]? = some y) (hij:i≠j)
  (hx:X.env.scope.names.lookup x=some .local) (hy:X.env.scope.names.lookup y=some .local) (ha:PA X [a,b] ta)
  (hw:swappedStores [.Tuple [.Name x px,.Name y py] kt pt] (.Tuple [a,b] k2 pt2) X.env=pure (some [x,y]))
  (hs:swapsWithSole [.Tuple [.Name x px,.Name y py] kt pt] (.Tuple [a,b] k2 pt2) pos.line X.env=pure false:=by rfl) :
  PS X (.Assign [.Tuple [.Name x px,.Name y py] kt pt] (.Tuple [a,b] k2 pt2) pos) (tPar i j ta):=by
 intro pins s σ H D I h
 rw [exec_Assign_arm]
 refine wpAny_bind (wpAny_standAt ?_)
 rw [hs]
 refine wpAny_bind (wpAny_pure ?_)
 rw [if_neg (by decide)]
 refine wpAny_bind (Tuple_ (thn (ha _ pins s σ H _ I h) fun us s1 ⟨vs,H1,I1,r1,q1⟩=>?_))
 obtain⟨v,w,e1,q1⟩:=q1
 subst e1
 obtain⟨u1,u2,rfl,rv,rw'⟩:∃ u1 u2,us=[u1,u2]∧RelV v u1∧RelV w u2:=by
  cases r1 with
  | cons p q=>
   cases q with
   | cons p' q'=>
    cases q'
    exact⟨_,_,rfl,p,p'⟩
 refine wpAny_newObj_type ?_ (by show 2≤sizeLine; decide)
 have I2:Inv X pins σ H1 {s1 with heap:=s1.heap.push {cls:=.type "tuple",data:=.seq [u1,u2].toArray}}:=I1.kept (t':=s1.toks) fun b o e=>Heap.get?_push_of_some _ e
 rw [hw]
 refine wpAny_bind (wpAny_pure ?_)
 show wpAny (model X.prog X.w) X.A (do rule "assign.swapped-stores"; let items ← unpackItems (.ref s1.heap.objs.size) 2 none; assignInOrder [fun v=>bindName X.env y v,fun v=>bindName X.env x v] items.reverse; pure Flow.next) _ _ _
 refine wpAny_bind (wpAny_rule (wpAny_bind (unpackItems_tuple (items:=#[u1,u2]) (I.ok.hd hc) (IsTup.new s1.heap _) fun h' hx'=>?_)))
 have I3:=I2.kept (h':=h') (t':=s1.toks) fun b o e=>hx' b o (Nat.ne_of_lt (Heap.lt_size e)) e
 show wpAny _ _ (assignInOrder [fun v=>bindName X.env y v,fun v=>bindName X.env x v] [u2,u1]>>=fun _=>pure Flow.next) _ _ _
 refine wpAny_bind (assignInOrder_cons (wpAny_bindName (store_ok I3 hN hj (.inl hy) rw' (fun s2 I4=>?_) (.inr hy))))
 refine assignInOrder_cons (wpAny_bindName (store_ok I4 hN hi (.inl hx) rv (fun s3 I5=>assignInOrder_nil (wpAny_pure ?_)) (.inr hx)))
 rw [List.set_comm _ _ (Ne.symm hij)] at I5
 exact⟨_,H1,I5,q1⟩
def tAugS (to ti te:TE) (tget:V→V→Hp→VK→Prop) (tip:TIp) (tset:TSet):TS:=fun D σ H=>to σ H fun o H1=>ti σ H1 fun i H2=>tget o i H2 fun x H3=>te σ H3 fun y H4=>tip x y H4 fun z H5=>tset o i z H5 fun H6=>D.nx σ H6
def PGet (X:Cx) (t:V→V→Hp→VK→Prop):Prop:=
 ∀ (pins:List (Addr×Obj)) (s:Shared) (σ:St) (H:Hp) (o i:V) (ov iv:Value) (Q:VK),Inv X pins σ H s→RelV o ov→RelV i iv→t o i H Q→
  wpAny (model X.prog X.w) X.A (getItem ov iv) (EP X pins σ Q) X.xe s
theorem ps_augS {o i e:Expr} {to ti te:TE} {tget:V→V→Hp→VK→Prop} {tip:TIp} {tset:TSet} {op:Operator} {tpos:Pos} (ho:PE X o to) (hi:PE X i ti) (hg:PGet X tget) (he:PE X e te) (hp:PIp X op tip) (hs:PSet X tset)
  (ha:∀ ov iv new,augStore i ov iv new=(do holding [new,ov,iv] (setItem ov iv new); release [new,ov,iv] []; pure .next):=by intros; rfl):PS X (.AugAssign (.Subscript o i tpos) op e pos) (tAugS to ti te tget tip tset):=by
 intro pins s σ H D I h
 refine wpAny_AugAssign_SubscriptAny (thn (ho pins s σ H _ I h) fun ov s1 ⟨x1,H1,I1,r1,q1⟩=>?_) ha
 refine thn (hi pins s1 σ H1 _ I1 q1) fun iv s2 ⟨x2,H2,I2,r2,q2⟩=>?_
 refine thn (hg pins s2 σ H2 x1 x2 ov iv _ I2 r1 r2 q2) fun old s3 ⟨x3,H3,I3,r3,q3⟩=>?_
 refine thn (he pins s3 σ H3 _ I3 q3) fun v s4 ⟨x4,H4,I4,r4,q4⟩=>?_
 refine thn (hp pins s4 σ H4 x3 x4 old v _ I4 r3 r4 q4) fun new s5 ⟨x5,H5,I5,r5,q5⟩=>?_
 exact thn (hs pins s5 σ H5 x1 x2 x5 ov iv new _ I5 r1 r2 r5 q5) fun _ s6 ⟨H6,I6,q6⟩=>⟨σ,H6,I6,q6⟩
def ipI (f:Int→Int→Int):TIp:=fun x y H Q=>∃ i j,x=.int i∧y=.int j∧Q (.int (f i j)) H
theorem ip_sub:PIp X .Sub (ipI fun i j=>i-j):=by
 intro pins s σ H x y v u Q I r1 r2 h
 obtain⟨i,j,e1,e2,q⟩:=h
 subst e1; subst e2
 obtain⟨t,rfl⟩:=r1
 obtain⟨t',rfl⟩:=r2
 exact isub_int ⟨.int _,H,I.tok _,⟨_,rfl⟩,q⟩
end
section
variable {X:Cx} {pos:Pos}
end
structure It where
 go:Nat→Hp→Prop
 yld:Nat→Hp→V→Hp→Prop
 stop:Nat→Hp→Prop
def FpOk (X:Cx) (pins:List (Addr×Obj)) (H:Hp) (b:Addr):Prop:=
 H b=none∧b≠X.env.locals∧b∉X.fs∧(b∈X.ex∨X.s₀.heap.objs.size≤b)∧(∀ x c,X.env.cells.lookup x=some c→c≠b)∧∀ p∈X.pn++pins,p.1≠b
theorem Inv.fpOk {X:Cx} {pins:List (Addr×Obj)} {σ:St} {H H':Hp} {s:Shared} {b:Addr} (I:Inv X pins σ H s) (hb:s.heap.objs.size≤b) (hn:H' b=none):FpOk X pins H' b:=by
 refine⟨hn,Nat.ne_of_gt (Nat.lt_of_lt_of_le I.lt hb),I.nofs hb,.inr (Nat.le_trans I.sz hb),fun x c e z=>?_,fun p hp z=>?_⟩
 ·obtain⟨v,q⟩:=I.cell x c e
  exact absurd (Nat.lt_of_lt_of_le q.lt (by rw [z]; exact hb)) (Nat.lt_irrefl _)
 ·exact absurd (Nat.lt_of_lt_of_le (Heap.lt_size (I.pin p hp).1) (by rw [z]; exact hb)) (Nat.lt_irrefl _)
structure Turn (P:Program) (w:World) (K:PySem.W.Frag) (tg:Expr) (J:It) (fp:List Addr) (it:Addr) (tn:Nat→Heap→Prop):Prop where
 mem:it∈fp
 obj:∀ i h,tn i h→∀ b∈fp,∃ o,h.get? b=some o∧∀ v,o.data≠.cell v
 keep:∀ i h h',tn i h→(∀ b∈fp,∀ o,h.get? b=some o→h'.get? b=some o)→tn i h'
 item:∀ (X:Cx),X.prog=P→X.w=w→X.K=K→X.calm=true→∀ (i:Nat) (pins:List (Addr×Obj)) (s:Shared) (σ:St) (H:Hp) (E:Value→Shared→Prop),Inv X pins σ H s→(∀ b∈fp,FpOk X pins H b)→tn i s.heap→J.go i H→
  wpAny (model P w) X.A (pyNext (.ref it)) (fun r s1=>∃ u,r=some u∧
   wpAny (model P w) X.A (letOwnedTupleGo tg (.ref it) u) (fun _ s2=>∃ x H',Inv X pins σ H' s2∧RelV x u∧J.yld i H x H'∧tn (i+1) s2.heap∧∀ b∈fp,H' b=none) E s1) E s
 done:∀ (X:Cx),X.prog=P→X.w=w→X.K=K→X.calm=true→∀ (i:Nat) (pins:List (Addr×Obj)) (s:Shared) (σ:St) (H:Hp) (E:Value→Shared→Prop),Inv X pins σ H s→(∀ b∈fp,FpOk X pins H b)→tn i s.heap→J.stop i H→
  wpAny (model P w) X.A (pyNext (.ref it)) (fun r s1=>r=none∧Inv X pins σ H s1) E s
 self:∀ (A:Around) (i:Nat) (s:Shared) (Q:Value→Shared→Prop) (E:Value→Shared→Prop),tn i s.heap→Q (.ref it) s→wpAny (model P w) A (pyIter (.ref it)) Q E s
abbrev TI:=St→Hp→(It→Hp→Prop)→Prop
def PIE (X:Cx) (pins:List (Addr×Obj)) (σ:St) (tg:Expr) (R:It→Hp→Prop) (itv:Value) (s2:Shared):Prop:=
 ∃ (it:Addr) (fp:List Addr) (tn:Nat→Heap→Prop) (J:It) (H':Hp),itv=.ref it∧Inv X pins σ H' s2∧Turn X.prog X.w X.K tg J fp it tn∧tn 0 s2.heap∧(∀ b∈fp,FpOk X pins H' b)∧R J H'
def PI (X:Cx) (tg iter:Expr) (wi:TI):Prop:=
 ∀ (pins:List (Addr×Obj)) (s:Shared) (σ:St) (H:Hp) (R:It→Hp→Prop),Inv X pins σ H s→wi σ H R→
  wpAny (model X.prog X.w) X.A (eval iter X.env) (fun v s1=>wpAny (model X.prog X.w) X.A (pyIter v) (PIE X pins σ tg R) X.xe s1) X.xe s
theorem go_of {M:Model} {A:Around} {E:Value→Shared→Prop} {s:Shared} {tg:Expr} {it:Addr} {u:Value} {o:Obj} {n:String} {vs:Array Value} {Q:Unit→Shared→Prop} (ho:s.heap.get? it=some o) (hc:o.cls=.type n) (hd:o.data=.fields vs)
    (hn:["enumerate","zip","dict_itemiterator","dict_reverseitemiterator","odict_iterator","itertools.zip_longest","itertools.pairwise"].contains n=false) (hQ:Q () s):wpAny M A (letOwnedTupleGo tg (.ref it) u) Q E s:=by
  unfold letOwnedTupleGo
  cases tg <;> first
    | exact wpAny_pure hQ
    | (cases u <;> first
        | exact wpAny_pure hQ
        | (refine wpAny_bind (wpAny_load ho ?_)
           rw [hc,hd]
           show wpAny M A (if (["enumerate","zip","dict_itemiterator","dict_reverseitemiterator","odict_iterator","itertools.zip_longest","itertools.pairwise"].contains n&&vs[0]? == some (rawInt _))=true then _ else _) Q E s
           rw [if_neg (by intro h; rw [hn,Bool.false_and] at h; cases h)]
           exact wpAny_pure hQ))
def Itl (K:PySem.W.Frag) (a:Addr):It:=
 ⟨fun i H=>∃ xs x,SqL K H a xs∧xs[i]? = some x,fun i H x H'=>H'=H∧∀ xs,SqL K H a xs→xs[i]? = some x,fun i H=>∃ xs,SqL K H a xs∧xs.length≤i⟩
def Itt (K:PySem.W.Frag) (a:Addr):It:=
 ⟨fun i H=>∃ xs x,SqT K H a xs∧xs[i]? = some x,fun i H x H'=>H'=H∧∀ xs,SqT K H a xs→xs[i]? = some x,fun i H=>∃ xs,SqT K H a xs∧xs.length≤i⟩
def Itr (lo:Int) (n:Nat):It:=⟨fun i _=>i<n,fun i H x H'=>H'=H∧x=.int (lo+i),fun i _=>n≤i⟩
theorem turn_list {P:Program} {w:World} {K:PySem.W.Frag} {tg:Expr} (a it:Addr):Turn P w K tg (Itl K a) [it] it (fun i h=>h.IsListIter it a i) where
 mem:=by simp
 obj:=fun i h st b hb=>by
  have e:b=it:=by simpa using hb
  subst e
  obtain⟨o,e,c,d⟩:=st
  exact⟨o,e,fun v z=>by rw [d] at z; cases z⟩
 keep:=fun i h h' st k=>st.at fun o e=>k it (by simp) o e
 item:=by
  intro X hP hw hK hc i pins s σ H E I hf st hg
  subst hP hw hK
  obtain⟨xs,x,hq,hx⟩:=hg
  obtain⟨its,rv,p,hz⟩:=I.list hq
  obtain⟨u,hu,ru⟩:=rv.get hx
  obtain⟨f0,f1,f2,f3,f4,f5⟩:=hf it (by simp)
  refine wpAny_pyNext_list_item st p.isList (x:=u) (by simpa using hu) fun h' st' sb=>?_
  have I1:Inv X pins σ H {s with heap:=h'}:=I.turned (t':=s.toks) (fun b o hb e=>(sb.2 b hb).trans e) f0 f1 f3 f4 f5
  obtain⟨o,e,c,d⟩:=id st'
  exact⟨u,rfl,go_of (s:={s with heap:=h'}) e c d (by decide) ⟨x,H,I1,ru,⟨rfl,fun ys hy=>by rw [I.list_inj hy hq]; exact hx⟩,st',fun b hb=>(hf b hb).1⟩⟩
 done:=by
  intro X hP hw hK hc i pins s σ H E I hf st hg
  subst hP hw hK
  obtain⟨xs,hq,hx⟩:=hg
  obtain⟨its,rv,p,hz⟩:=I.list hq
  obtain⟨f0,f1,f2,f3,f4,f5⟩:=hf it (by simp)
  have hl:=rv.length
  exact wpAny_pyNext_list_end (I.ok.hd hc) st p.isList (by simp; omega) fun h' eb=>⟨rfl,I.turned (t':=s.toks) (fun b o hb e=>eb b o hb e) f0 f1 f3 f4 f5⟩
 self:=fun _ _ _ _ _ st h=>wpAny_pyIter_listiter st h
theorem turn_tuple {P:Program} {w:World} {K:PySem.W.Frag} {tg:Expr} (a it:Addr):Turn P w K tg (Itt K a) [it] it (fun i h=>h.IsTupleIter it a i) where
 mem:=by simp
 obj:=fun i h st b hb=>by
  have e:b=it:=by simpa using hb
  subst e
  obtain⟨o,e,c,d⟩:=st
  exact⟨o,e,fun v z=>by rw [d] at z; cases z⟩
 keep:=fun i h h' st k=>st.at fun o e=>k it (by simp) o e
 item:=by
  intro X hP hw hK hc i pins s σ H E I hf st hg
  subst hP hw hK
  obtain⟨xs,x,hq,hx⟩:=hg
  obtain⟨its,rv,p,hz⟩:=I.tuple hq
  obtain⟨u,hu,ru⟩:=rv.get hx
  obtain⟨f0,f1,f2,f3,f4,f5⟩:=hf it (by simp)
  refine wpAny_pyNext_tuple_item st (show s.heap.IsTuple a its.toArray from p) (x:=u) (by simpa using hu) fun h' st' sb=>?_
  have I1:Inv X pins σ H {s with heap:=h'}:=I.turned (t':=s.toks) (fun b o hb e=>(sb.2 b hb).trans e) f0 f1 f3 f4 f5
  obtain⟨o,e,c,d⟩:=id st'
  exact⟨u,rfl,go_of (s:={s with heap:=h'}) e c d (by decide) ⟨x,H,I1,ru,⟨rfl,fun ys hy=>by rw [I.tuple_inj hy hq]; exact hx⟩,st',fun b hb=>(hf b hb).1⟩⟩
 done:=by
  intro X hP hw hK hc i pins s σ H E I hf st hg
  subst hP hw hK
  obtain⟨xs,hq,hx⟩:=hg
  obtain⟨its,rv,p,hz⟩:=I.tuple hq
  obtain⟨f0,f1,f2,f3,f4,f5⟩:=hf it (by simp)
  have hl:=rv.length
  exact wpAny_pyNext_tuple_end (I.ok.hd hc) st (show s.heap.IsTuple a its.toArray from p) (by simp; omega) fun h' eb=>⟨rfl,I.turned (t':=s.toks) (fun b o hb e=>eb b o hb e) f0 f1 f3 f4 f5⟩
 self:=fun _ _ _ _ _ st h=>wpAny_pyIter_tupleiter st h
theorem turn_range {P:Program} {w:World} {K:PySem.W.Frag} {tg:Expr} (it:Addr) (lo:Int) (n:Nat):Turn P w K tg (Itr lo n) [it] it (fun i h=>IsRangeIter h it (lo+(i:Nat)*1) ((n:Int) - (i:Nat)) 1) where
 mem:=by simp
 obj:=fun i h st b hb=>by
  have e:b=it:=by simpa using hb
  subst e
  exact⟨_,st,fun v z=>by
   have z':Data.fields _=Data.cell v:=z
   cases z'⟩
 keep:=fun i h h' st k=>k it (by simp) _ st
 item:=by
  intro X hP hw hK hc i pins s σ H E I hf st hg
  subst hP hw hK
  obtain⟨f0,f1,f2,f3,f4,f5⟩:=hf it (by simp)
  have W:=Walks.range (prog:=X.prog) (w:=X.w) (I.ok.hd hc) it lo 1 n
  refine W.item i s _ _ hg st fun v h' tk hv st' kk=>?_
  obtain⟨t,rfl⟩:=hv
  have I1:Inv X pins σ H {s with heap:=h',toks:=tk}:=I.turned (fun b o hb e=>kk b o (by simpa using hb) e) f0 f1 f3 f4 f5
  refine⟨_,rfl,go_of (s:={s with heap:=h',toks:=tk}) (n:="range_iterator") st' rfl rfl (by decide) ⟨.int (lo+i),H,I1,⟨t,?_⟩,⟨rfl,rfl⟩,st',fun b hb=>(hf b hb).1⟩⟩
  rw [Int.mul_one]
 done:=by
  intro X hP hw hK hc i pins s σ H E I hf st hg
  subst hP hw hK
  obtain⟨f0,f1,f2,f3,f4,f5⟩:=hf it (by simp)
  exact wpAny_pyNext_range_end (I.ok.hd hc) st (by have : n≤i:=hg; omega) fun h' eb=>⟨rfl,I.turned (t':=s.toks) (fun b o hb e=>eb b o hb e) f0 f1 f3 f4 f5⟩
 self:=fun _ _ _ _ _ st h=>wpAny_pyIter_rangeiter st h
section
variable {X:Cx} {tg:Expr}
def iList (K:PySem.W.Frag) (tl:TE):TI:=fun σ H R=>tl σ H fun x H1=>∃ a,x=.ref a∧(∃ xs,SqL K H1 a xs)∧R (Itl K a) H1
def iTup (K:PySem.W.Frag) (tl:TE):TI:=fun σ H R=>tl σ H fun x H1=>∃ a,x=.ref a∧(∃ xs,SqT K H1 a xs)∧R (Itt K a) H1
theorem pi_list {l:Expr} {tl:TE} (hl:PE X l tl):PI X tg l (iList X.K tl):=by
 intro pins s σ H R I h
 refine thn (hl pins s σ H _ I h) fun v s1 ⟨x,H1,I1,r1,q1⟩=>?_
 obtain⟨a,e,⟨xs,hq⟩,q⟩:=q1
 subst e
 cases r1
 obtain⟨its,rv,p,hz⟩:=I1.list hq
 refine wpAny_pyIter_list p.isList ?_
 refine⟨s1.heap.objs.size,[s1.heap.objs.size],_,_,H1,rfl,I1.kept (t':=s1.toks) fun b o e=>Heap.get?_push_of_some _ e,turn_list a _,⟨_,Heap.get?_push_size _ rfl,rfl,rfl⟩,fun b hb=>?_,q⟩
 have e:b=s1.heap.objs.size:=by simpa using hb
 subst e
 exact I1.fpOk (Nat.le_refl _) (I1.hok.fresh (Nat.le_refl _))
theorem pi_tup {l:Expr} {tl:TE} (hl:PE X l tl):PI X tg l (iTup X.K tl):=by
 intro pins s σ H R I h
 refine thn (hl pins s σ H _ I h) fun v s1 ⟨x,H1,I1,r1,q1⟩=>?_
 obtain⟨a,e,⟨xs,hq⟩,q⟩:=q1
 subst e
 cases r1
 obtain⟨its,rv,p,hz⟩:=I1.tuple hq
 refine wpAny_pyIter_tuple (show s1.heap.IsTuple a its.toArray from p) ?_
 refine⟨s1.heap.objs.size,[s1.heap.objs.size],_,_,H1,rfl,I1.kept (t':=s1.toks) fun b o e=>Heap.get?_push_of_some _ e,turn_tuple a _,⟨_,Heap.get?_push_size _ rfl,rfl,rfl⟩,fun b hb=>?_,q⟩
 have e:b=s1.heap.objs.size:=by simpa using hb
 subst e
 exact I1.fpOk (Nat.le_refl _) (I1.hok.fresh (Nat.le_refl _))
theorem range_it {pins:List (Addr×Obj)} {σ:St} {H:Hp} {s:Shared} {R:It→Hp→Prop} {E:Value→Shared→Prop} {lo hi:Int} {t u v:Tok} {tk:Nat} (I:Inv X pins σ H s) (h1:-(2 ^ 62)≤lo) (h2:lo<2 ^ 62) (h3:-(2 ^ 62)≤hi) (h4:hi<2 ^ 62)
  (q:R (Itr lo (hi-lo).toNat) H):wpAny (model X.prog X.w) X.A (pyIter (.ref s.heap.objs.size)) (PIE X pins σ tg R) E {s with heap:=s.heap.push {cls:=.type "range",data:=.fields #[.int lo t,.int hi u,.int 1 v]},toks:=tk}:=by
 refine wpAny_pyIter_range (IsRange.new ..) (small_one h1 h2 h3 h4) ?_
 have I1:Inv X pins σ H {s with heap:=s.heap.push {cls:=.type "range",data:=.fields #[.int lo t,.int hi u,.int 1 v]},toks:=tk}:=I.kept fun b o e=>Heap.get?_push_of_some _ e
 refine⟨(s.heap.push {cls:=.type "range",data:=.fields #[.int lo t,.int hi u,.int 1 v]}).objs.size,[(s.heap.push {cls:=.type "range",data:=.fields #[.int lo t,.int hi u,.int 1 v]}).objs.size],_,_,H,rfl,
  I1.kept (t':=tk) fun b o e=>Heap.get?_push_of_some _ e,turn_range _ lo (hi-lo).toNat,?_,fun b hb=>?_,q⟩
 ·have e1:lo+((0:Nat):Int)*1=lo:=by simp
  have e2:(((hi-lo).toNat:Nat):Int) - ((0:Nat):Int)=Builtin.Range.rangeSize lo hi 1:=by rw [rangeSize_one]; split <;> omega
  show IsRangeIter _ _ (lo+((0:Nat):Int)*1) ((((hi-lo).toNat:Nat):Int) - ((0:Nat):Int)) 1
  rw [e1,e2]
  exact Heap.get?_push_size _ rfl
 ·have e:b=(s.heap.push {cls:=.type "range",data:=.fields #[.int lo t,.int hi u,.int 1 v]}).objs.size:=by simpa using hb
  subst e
  exact I1.fpOk (Nat.le_refl _) (I1.hok.fresh (Nat.le_refl _))
def iRng1 (ta:TA):TI:=fun σ H R=>ta σ H fun vs H1=>∃ j:Int,vs=[.int j]∧-(2 ^ 62)≤j∧j<2 ^ 62∧R (Itr 0 j.toNat) H1
theorem pi_range1 {a:Expr} {ta:TA} {p pos:Pos} (hg:Gl X "range") (hm:X.mg "range"=none) (ha:PA X [a] ta) (hs:starEach [a] X.env=[(false,eval a X.env)]:=by rfl):PI X tg (.Call (.Name "range" p) [a] [] pos) (iRng1 ta):=by
 intro pins s σ H R I h
 refine Call_ (ld_blt I hg hm boot_range (PyProof.Rows.callWith_type1 (thn (ha pos pins s σ H _ I h) fun us s1 ⟨vs,H1,I1,r1,q1⟩=>?_) hs rfl))
 obtain⟨j,e,q1,q2,q⟩:=q1
 subst e
 cases r1 with
 | cons r rr=>
  cases rr
  obtain⟨t,rfl⟩:=r
  exact call_range_1 (range_it I1 (by omega) (by omega) q1 q2 (by simpa using q))
def tFor (wi:TI) (g:TG) (tb:TS):TS:=fun D σ H=>wi σ H fun J H1=>∃ W:Nat→Nat→St→Hp→Prop,(∃ m,W 0 m σ H1)∧∀ i m σ H,W i m σ H→
 (J.stop i H∧D.nx σ H)∨(J.go i H∧∃ N:St→Hp→Prop,(∀ σ' H',N σ' H'→∃ m',m'<m∧W (i+1) m' σ' H')∧∀ x H',J.yld i H x H'→g x σ H' fun σ2 H2=>tb {D with nx:=N,ct:=N,bk:=D.nx} σ2 H2)
def pinsAt (fp:List Addr) (h:Heap):List (Addr×Obj):=fp.filterMap fun b=>(h.get? b).map fun o=>(b,o)
theorem mem_pinsAt {fp:List Addr} {h:Heap} {b:Addr} {o:Obj} (hb:b∈fp) (e:h.get? b=some o):(b,o)∈pinsAt fp h:=List.mem_filterMap.mpr ⟨b,hb,by rw [e]; rfl⟩
theorem of_pinsAt {fp:List Addr} {h:Heap} {p:Addr×Obj} (hp:p∈pinsAt fp h):p.1∈fp∧h.get? p.1=some p.2:=by
 obtain⟨b,hb,e⟩:=List.mem_filterMap.mp hp
 cases q:h.get? b with
 | none=>rw [q] at e; cases e
 | some o=>
  rw [q] at e
  have e':(b,o)=p:=Option.some.inj e
  subst e'
  exact⟨hb,q⟩
theorem Inv.pinned {pins:List (Addr×Obj)} {σ:St} {H:Hp} {s:Shared} {fp:List Addr} (I:Inv X pins σ H s) (hf:∀ b∈fp,FpOk X pins H b) (ho:∀ b∈fp,∃ o,s.heap.get? b=some o∧∀ v,o.data≠.cell v):Inv X (pins++pinsAt fp s.heap) σ H s:=
 I.pins_of fun p hp=>(List.mem_append.mp hp).elim (fun z=>I.pin p (List.mem_append_right _ z)) fun z=>by
  obtain⟨hb,e⟩:=of_pinsAt z
  obtain⟨f0,f1,f2,_⟩:=hf p.1 hb
  obtain⟨o,e',d⟩:=ho p.1 hb
  rw [e] at e'; cases e'
  exact⟨e,f0,f1,f2,d⟩
theorem Inv.unpinned {pins pl:List (Addr×Obj)} {σ:St} {H:Hp} {s:Shared} (I:Inv X (pins++pl) σ H s):Inv X pins σ H s:=I.pins_of fun p hp=>I.pin p (List.mem_append_right _ (List.mem_append_left _ hp))
theorem ps_for {iter:Expr} {body:List Stmt} {wi:TI} {g:TG} {tb:TS} {pos:Pos} (hp:PassesOwn (model X.prog X.w) X.A X.env X.xe) (hc:X.calm=true) (hi:PI X tg iter wi) (hg:PG X tg g) (hb:PSs X body tb)
  (hs:∀ x,foldedSetIterable iter X.env x=pure x:=by intro _; rfl):PS X (.For tg iter body [] pos) (tFor wi g tb):=by
 intro pins s σ H D I h
 refine wpAny_For (thn (hi pins s σ H _ I h) fun v s1 h1=>thn h1 fun itv s2 h2=>?_) hs
 obtain⟨it,fp,tn,J,H2,e,I2,T,st2,f2,W,⟨m0,w0⟩,turn⟩:=h2
 subst e
 have stat:∀ {H':Hp},(∀ b∈fp,H' b=none)→∀ b∈fp,FpOk X pins H' b:=fun hn b hb=>⟨hn b hb,(f2 b hb).2⟩
 refine codeAny_forLoop_any (fun n s'=>∃ i σ' H',Inv X pins σ' H' s'∧tn i s'.heap∧(∀ b∈fp,H' b=none)∧W i n σ' H') ?_ m0 ⟨0,σ,H2,I2,st2,fun b hb=>(f2 b hb).1,w0⟩
 rintro n s3 ⟨i,σ3,H3,I3,st3,fr3,w3⟩
 rcases turn i n σ3 H3 w3 with ⟨stop,qn⟩ | ⟨go,N,hN,step⟩
 ·refine wpAny_passesOwn hp (thn (T.done X rfl rfl rfl hc i pins s3 σ3 H3 X.xe I3 (stat fr3) st3 stop) fun r s4 ⟨hr,I4⟩=>?_)
  subst hr
  exact wpAny_execs_nil ⟨σ3,H3,I4,qn⟩
 ·refine wpAny_passesOwn hp (thn (T.item X rfl rfl rfl hc i pins s3 σ3 H3 X.xe I3 (stat fr3) st3 go) fun r s4 ⟨u,hr,h4⟩=>?_)
  subst hr
  refine wpAny_passesOwn hp (thn h4 fun _ s5 ⟨x,H5,I5,r5,y5,st5,fr5⟩=>?_)
  have I5':=I5.pinned (stat fr5) (T.obj _ _ st5)
  refine wpAny_passesOwn hp (thn (hg _ s5 σ3 H5 x u _ I5' r5 (step x H5 y5)) fun _ s6 ⟨σ6,H6,I6,q6⟩=>?_)
  refine wpAny_passesOwn hp (thn (hb _ s6 σ6 H6 _ I6 q6) fun f s7 q7=>?_)
  have again:∀ {σ7:St} {H7:Hp},Inv X (pins++pinsAt fp s5.heap) σ7 H7 s7→N σ7 H7→∃ m,m<n∧∃ i σ' H',Inv X pins σ' H' s7∧tn i s7.heap∧(∀ b∈fp,H' b=none)∧W i m σ' H':=fun {σ7 H7} I7 n7=>by
   obtain⟨m',hm,w7⟩:=hN σ7 H7 n7
   refine⟨m',hm,i+1,σ7,H7,I7.unpinned,T.keep _ _ _ st5 fun b hb o e=>(I7.pin (b,o) (List.mem_append_right _ (List.mem_append_right _ (mem_pinsAt hb e)))).1,fun b hb=>?_,w7⟩
   obtain⟨o,e,d⟩:=T.obj _ _ st5 b hb
   exact(I7.pin (b,o) (List.mem_append_right _ (List.mem_append_right _ (mem_pinsAt hb e)))).2.1
  cases f with
  | next=>obtain⟨σ7,H7,I7,n7⟩:=q7; exact again I7 n7
  | cont=>obtain⟨σ7,H7,I7,n7⟩:=q7; exact again I7 n7
  | brk=>obtain⟨σ7,H7,I7,q7⟩:=q7; exact⟨σ7,H7,I7.unpinned,q7⟩
  | ret v=>obtain⟨x7,σ7,H7,I7,r7,q7⟩:=q7; exact⟨x7,σ7,H7,I7.unpinned,r7,q7⟩
end
theorem for_list {K:PySem.W.Frag} {a:Addr} {xs:List V} {g:TG} {tb:TS} {D:Ends} {σ:St} {H:Hp} (Pv:Nat→St→Hp→Prop) (h0:Pv 0 σ H) (hl:∀ i σ H,i≤xs.length→Pv i σ H→SqL K H a xs)
  (hs:∀ i x σ H,xs[i]? = some x→Pv i σ H→g x σ H fun σ2 H2=>tb {D with nx:=Pv (i+1),ct:=Pv (i+1),bk:=D.nx} σ2 H2) (hd:∀ σ H,Pv xs.length σ H→D.nx σ H) :
  ∃ W:Nat→Nat→St→Hp→Prop,(∃ m,W 0 m σ H)∧∀ i m σ H,W i m σ H→
   ((Itl K a).stop i H∧D.nx σ H)∨((Itl K a).go i H∧∃ N:St→Hp→Prop,(∀ σ' H',N σ' H'→∃ m',m'<m∧W (i+1) m' σ' H')∧∀ x H',(Itl K a).yld i H x H'→g x σ H' fun σ2 H2=>tb {D with nx:=N,ct:=N,bk:=D.nx} σ2 H2):=by
 refine⟨fun i m σ H=>m=xs.length-i∧i≤xs.length∧Pv i σ H,⟨xs.length,by simp,Nat.zero_le _,h0⟩,?_⟩
 rintro i m σ H ⟨rfl,hi,p⟩
 have q:=hl i σ H hi p
 by_cases hlt:i<xs.length
 ·refine .inr ⟨⟨xs,xs[i],q,by simp [hlt]⟩,Pv (i+1),fun σ' H' p'=>⟨xs.length - (i+1),by omega,rfl,hlt,p'⟩,fun x H' y=>?_⟩
  obtain⟨e,y⟩:=y
  subst e
  exact hs i x σ _ (y xs q) p
 ·have e:i=xs.length:=by omega
  subst e
  exact .inl ⟨⟨xs,q,Nat.le_refl _⟩,hd σ H p⟩
abbrev R2:=V→V→Hp→VK→Prop
def OpR (X:Cx) (f:Value→Value→Sem Value) (r:R2):Prop:=
 ∀ (pins:List (Addr×Obj)) (s:Shared) (σ:St) (H:Hp) (x y:V) (v u:Value) (Q:VK),Inv X pins σ H s→RelV x v→RelV y u→r x y H Q→
  wpAny (model X.prog X.w) X.A (f v u) (EP X pins σ Q) X.xe s
def UnR (X:Cx) (f:Value→Sem Value) (r:V→Hp→VK→Prop):Prop:=
 ∀ (pins:List (Addr×Obj)) (s:Shared) (σ:St) (H:Hp) (x:V) (v:Value) (Q:VK),Inv X pins σ H s→RelV x v→r x H Q→
  wpAny (model X.prog X.w) X.A (f v) (EP X pins σ Q) X.xe s
def CallR (X:Cx) (f:Value) (r:List V→Hp→VK→Prop):Prop:=
 ∀ (pins:List (Addr×Obj)) (s:Shared) (σ:St) (H:Hp) (xs:List V) (us:List Value) (Q:VK),Inv X pins σ H s→Vals xs us→r xs H Q→
  wpAny (model X.prog X.w) X.A (call f us) (EP X pins σ Q) X.xe s
def TruR (X:Cx) (r:V→Hp→(Bool→Hp→Prop)→Prop):Prop:=
 ∀ (pins:List (Addr×Obj)) (s:Shared) (σ:St) (H:Hp) (x:V) (v:Value) (Q:Bool→Hp→Prop),Inv X pins σ H s→RelV x v→r x H Q→
  wpAny (model X.prog X.w) X.A (truthy v) (TP X pins σ Q) X.xe s
def tOp (r:R2) (ta tb:TE):TE:=fun σ H Q=>ta σ H fun x H1=>tb σ H1 fun y H2=>r x y H2 Q
def tUn (r:V→Hp→VK→Prop) (ta:TE):TE:=fun σ H Q=>ta σ H fun x H1=>r x H1 Q
def rI (C:Int→Int→Prop) (g:Int→Int→V):R2:=fun x y H Q=>∃ i j,x=.int i∧y=.int j∧C i j∧Q (g i j) H
def rI0 (g:Int→Int→V):R2:=fun x y H Q=>∃ i j,x=.int i∧y=.int j∧Q (g i j) H
def rU (g:Int→V):V→Hp→VK→Prop:=fun x H Q=>∃ i,x=.int i∧Q (g i) H
section
variable {X:Cx} {a b c:Expr} {ta tb tc:TE} {pos:Pos}
theorem binT (ha:PE X a ta) (hb:PE X b tb) {pins:List (Addr×Obj)} {s:Shared} {σ:St} {H:Hp} {R:V→V→Hp→Prop} (I:Inv X pins σ H s)
  (h:ta σ H fun x H1=>tb σ H1 fun y H2=>R x y H2) {Q:Value→Shared→Prop} {f:Value→Value→Sem Value}
  (hf:∀ v u s2 x y H2,Inv X pins σ H2 s2→RelV x v→RelV y u→R x y H2→wpAny (model X.prog X.w) X.A (f v u) Q X.xe s2) :
  wpAny (model X.prog X.w) X.A (eval a X.env) (fun v s₁=>wpAny (model X.prog X.w) X.A (eval b X.env) (fun u s₂=>wpAny (model X.prog X.w) X.A (f v u) Q X.xe s₂) X.xe s₁) X.xe s:=by
 refine thn (ha pins s σ H _ I h) fun v s1 ⟨x,H1,I1,r1,q1⟩=>?_
 refine thn (hb pins s1 σ H1 _ I1 q1) fun u s2 ⟨y,H2,I2,r2,q2⟩=>?_
 exact hf v u s2 x y H2 I2 r1 r2 q2
theorem pe_op {op:Operator} {r:R2} (ho:OpR X (binaryOp op) r) (ha:PE X a ta) (hb:PE X b tb):PE X (.BinOp a op b pos) (tOp r ta tb):=by
 intro pins s σ H Q I h
 exact wpAny_BinOp (binT ha hb I h fun v u s2 x y H2 I2 rx ry q=>ho pins s2 σ H2 x y v u Q I2 rx ry q)
theorem pe_un {op:UnaryOp} {r:V→Hp→VK→Prop} (ho:UnR X (unaryOp op) r) (ha:PE X a ta):PE X (.UnaryOp op a pos) (tUn r ta):=by
 intro pins s σ H Q I h
 exact UnaryOp_ (thn (ha pins s σ H _ I h) fun v s1 ⟨x,H1,I1,r1,q1⟩=>ho pins s1 σ H1 x v Q I1 r1 q1)
theorem opI {f:Value→Value→Sem Value} {C:Int→Int→Prop} {g:Int→Int→Int}
  (rule:∀ (i j:Int) (t u:Tok) (s:Shared) (Q:Value→Shared→Prop) (E:Value→Shared→Prop),C i j→Q (.int (g i j) s.toks) {s with toks:=s.toks+1}→wpAny (model X.prog X.w) X.A (f (.int i t) (.int j u)) Q E s) :
  OpR X f (rI C fun i j=>.int (g i j)):=by
 intro pins s σ H x y v u Q I rx ry h
 obtain⟨i,j,rfl,rfl,hc,q⟩:=h
 obtain⟨t,rfl⟩:=rx
 obtain⟨t',rfl⟩:=ry
 exact rule i j t t' s _ _ hc ⟨.int (g i j),H,I.tok _,⟨_,rfl⟩,q⟩
theorem opI0 {f:Value→Value→Sem Value} {g:Int→Int→Int}
  (rule:∀ (i j:Int) (t u:Tok) (s:Shared) (Q:Value→Shared→Prop) (E:Value→Shared→Prop),Q (.int (g i j) s.toks) {s with toks:=s.toks+1}→wpAny (model X.prog X.w) X.A (f (.int i t) (.int j u)) Q E s) :
  OpR X f (rI0 fun i j=>.int (g i j)):=by
 intro pins s σ H x y v u Q I rx ry h
 obtain⟨i,j,rfl,rfl,q⟩:=h
 obtain⟨t,rfl⟩:=rx
 obtain⟨t',rfl⟩:=ry
 exact rule i j t t' s _ _ ⟨.int (g i j),H,I.tok _,⟨_,rfl⟩,q⟩
theorem opB0 {f:Value→Value→Sem Value} {g:Int→Int→Bool}
  (rule:∀ (i j:Int) (t u:Tok) (s:Shared) (Q:Value→Shared→Prop) (E:Value→Shared→Prop),Q (.bool (g i j)) s→wpAny (model X.prog X.w) X.A (f (.int i t) (.int j u)) Q E s) :
  OpR X f (rI0 fun i j=>.bl (g i j)):=by
 intro pins s σ H x y v u Q I rx ry h
 obtain⟨i,j,rfl,rfl,q⟩:=h
 obtain⟨t,rfl⟩:=rx
 obtain⟨t',rfl⟩:=ry
 exact rule i j t t' s _ _ ⟨.bl (g i j),H,I,rfl,q⟩
def CDiv (i j:Int):Prop:=0<j∧j<1073741824
def CPow (i j:Int):Prop:=0≤j∧j≤1000000∧i.natAbs<2 ^ 64
def CMul (i j:Int):Prop:=(-(2 ^ 64)<i∧i<2 ^ 64)∨(-(2 ^ 64)<j∧j<2 ^ 64)
theorem CMul.ok {i j:Int} (h:CMul i j):IntMulOk i j:=by
 rcases h with ⟨h1,h2⟩ | ⟨h1,h2⟩
 ·exact .of_left (intBits_le_64 h1 h2)
 ·exact .of_right (intBits_le_64 h1 h2)
theorem op_add:OpR X (binaryOp .Add) (rI0 fun i j=>.int (i+j)):=opI0 fun _ _ _ _ _ _ _ q=>add_int q
theorem op_sub:OpR X (binaryOp .Sub) (rI0 fun i j=>.int (i-j)):=opI0 fun _ _ _ _ _ _ _ q=>sub_int q
theorem op_mul:OpR X (binaryOp .Mult) (rI CMul fun i j=>.int (i*j)):=opI fun _ _ _ _ _ _ _ hc q=>mul_int q hc.ok
theorem op_fdiv:OpR X (binaryOp .FloorDiv) (rI CDiv fun i j=>.int (i / j)):=opI fun i j _ _ _ _ _ hc q=>by
 have h1:(0:Int)<j:=hc.1
 have h2:j<1073741824:=hc.2
 exact floordiv_int (by omega) (by rw [Int.fdiv_eq_ediv_of_nonneg i (by omega)]; exact q) (.inl (PyProof.noPylong_small (by omega)))
theorem op_mod:OpR X (binaryOp .Mod) (rI (fun _ j=>0<j) fun i j=>.int (i % j)):=opI fun i j _ _ _ _ _ hc q=>by
 have h1:(0:Int)<j:=hc
 exact mod_int' (by omega) (by rw [Int.fmod_eq_emod_of_nonneg i (by omega)]; exact q)
theorem op_pow:OpR X (binaryOp .Pow) (rI CPow fun i j=>.int (i ^ j.toNat)):=opI fun _ _ _ _ _ _ _ hc q=>pow_int_small hc.1 hc.2.1 hc.2.2 q
theorem unI {f:Value→Sem Value} {g:Int→Int}
  (rule:∀ (i:Int) (t:Tok) (s:Shared) (Q:Value→Shared→Prop) (E:Value→Shared→Prop),Q (.int (g i) s.toks) {s with toks:=s.toks+1}→wpAny (model X.prog X.w) X.A (f (.int i t)) Q E s) :
  UnR X f (rU fun i=>.int (g i)):=by
 intro pins s σ H x v Q I rx h
 obtain⟨i,rfl,q⟩:=h
 obtain⟨t,rfl⟩:=rx
 exact rule i t s _ _ ⟨.int (g i),H,I.tok _,⟨_,rfl⟩,q⟩
theorem un_neg:UnR X (unaryOp .USub) (rU fun i=>.int (-i)):=unI fun _ _ _ _ _ q=>neg_int q
end
def scal:V→V→Bool
 | .non,.non=>true | .non,.int _=>true | .int _,.non=>true | .non,.bl _=>true | .bl _,.non=>true | .non,.str _=>true | .str _,.non=>true
 | .int _,.int _=>true | .bl _,.bl _=>true | .str _,.str _=>true | .byt _,.byt _=>true
 | .int _,.str _=>true | .str _,.int _=>true | .bl _,.str _=>true | .str _,.bl _=>true
 | _,_=>false
def rEq:R2:=fun x y H Q=>scal x y=true∧Q (.bl (decide (x=y))) H
def rNe:R2:=fun x y H Q=>scal x y=true∧Q (.bl (!decide (x=y))) H
theorem dec_int {i j:Int}:decide (V.int i=V.int j)=(i==j):=by
 rw [Bool.eq_iff_iff]
 simp
theorem dec_bl {i j:Bool}:decide (V.bl i=V.bl j)=(i==j):=by
 rw [Bool.eq_iff_iff]
 simp
theorem dec_str {i j:Str}:decide (V.str i=V.str j)=(i==j):=by
 rw [Bool.eq_iff_iff]
 simp
theorem dec_byt {i j:Array UInt8}:decide (V.byt i=V.byt j)=(i.toList==j.toList):=by
 rw [Bool.eq_iff_iff]
 cases i
 cases j
 simp
section
variable {X:Cx} {a b c:Expr} {ta tb tc:TE} {pos:Pos}
theorem fin_bl {pins:List (Addr×Obj)} {σ:St} {H:Hp} {s:Shared} {Q:VK} {k k':Bool} (I:Inv X pins σ H s) (q:Q (.bl k) H) (e:k=k'):EP X pins σ Q (.bool k') s:=by
 subst e
 exact⟨.bl k,H,I,rfl,q⟩
theorem op_eq:OpR X (compareOp .Eq) rEq:=by
 intro pins s σ H x y v u Q I rx ry h
 obtain⟨hs,q⟩:=h
 cases x with
 | non=>
  cases rx
  cases y with
  | non=>cases ry; exact PySem.EqNone.eq_none_none (fin_bl I q (by simp))
  | bl j=>cases ry; exact PySem.EqNone.eq_none_bool (fin_bl I q (by simp))
  | int j=>obtain⟨t',rfl⟩:=ry; exact PySem.EqNone.eq_none_int (fin_bl I q (by simp))
  | str j=>obtain⟨t',rfl⟩:=ry; exact PySem.EqNone.eq_none_str (fin_bl I q (by simp))
  | _=>exact absurd (show false=true from hs) Bool.false_ne_true
 | bl i=>
  cases rx
  cases y with
  | non=>cases ry; exact PySem.EqNone.eq_bool_none (fin_bl I q (by simp))
  | bl j=>cases ry; exact eq_bool (fin_bl I q dec_bl)
  | str j=>obtain⟨t',rfl⟩:=ry; exact PySem.EqMixed.eq_bool_str (fin_bl I q (by simp))
  | _=>exact absurd (show false=true from hs) Bool.false_ne_true
 | int i=>
  obtain⟨t,rfl⟩:=rx
  cases y with
  | non=>cases ry; exact PySem.EqNone.eq_int_none (fin_bl I q (by simp))
  | int j=>obtain⟨t',rfl⟩:=ry; exact eq_int (fin_bl I q dec_int)
  | str j=>obtain⟨t',rfl⟩:=ry; exact PySem.EqMixed.eq_int_str (fin_bl I q (by simp))
  | _=>exact absurd (show false=true from hs) Bool.false_ne_true
 | str i=>
  obtain⟨t,rfl⟩:=rx
  cases y with
  | non=>cases ry; exact PySem.EqNone.eq_str_none (fin_bl I q (by simp))
  | bl j=>cases ry; exact PySem.EqMixed.eq_str_bool (fin_bl I q (by simp))
  | int j=>obtain⟨t',rfl⟩:=ry; exact PySem.EqMixed.eq_str_int (fin_bl I q (by simp))
  | str j=>obtain⟨t',rfl⟩:=ry; exact eq_str (fin_bl I q dec_str)
  | _=>exact absurd (show false=true from hs) Bool.false_ne_true
 | byt i=>
  obtain⟨t,rfl⟩:=rx
  cases y with
  | byt j=>obtain⟨t',rfl⟩:=ry; exact PySem.W.eq_bytes (fin_bl I q dec_byt)
  | _=>exact absurd (show false=true from hs) Bool.false_ne_true
 | _=>cases y <;> exact absurd (show false=true from hs) Bool.false_ne_true
theorem op_ne:OpR X (compareOp .NotEq) rNe:=by
 intro pins s σ H x y v u Q I rx ry h
 obtain⟨hs,q⟩:=h
 cases x with
 | non=>
  cases rx
  cases y with
  | non=>cases ry; exact PySem.EqNone.ne_none_none (fin_bl I q (by simp))
  | bl j=>cases ry; exact PySem.EqNone.ne_none_bool (fin_bl I q (by simp))
  | int j=>obtain⟨t',rfl⟩:=ry; exact PySem.EqNone.ne_none_int (fin_bl I q (by simp))
  | str j=>obtain⟨t',rfl⟩:=ry; exact PySem.EqNone.ne_none_str (fin_bl I q (by simp))
  | _=>exact absurd (show false=true from hs) Bool.false_ne_true
 | bl i=>
  cases rx
  cases y with
  | non=>cases ry; exact PySem.EqNone.ne_bool_none (fin_bl I q (by simp))
  | bl j=>cases ry; exact ne_bool (fin_bl I q (congrArg not dec_bl))
  | str j=>obtain⟨t',rfl⟩:=ry; exact PySem.EqMixed.ne_bool_str (fin_bl I q (by simp))
  | _=>exact absurd (show false=true from hs) Bool.false_ne_true
 | int i=>
  obtain⟨t,rfl⟩:=rx
  cases y with
  | non=>cases ry; exact PySem.EqNone.ne_int_none (fin_bl I q (by simp))
  | int j=>obtain⟨t',rfl⟩:=ry; exact ne_int (fin_bl I q (congrArg not dec_int))
  | str j=>obtain⟨t',rfl⟩:=ry; exact PySem.EqMixed.ne_int_str (fin_bl I q (by simp))
  | _=>exact absurd (show false=true from hs) Bool.false_ne_true
 | str i=>
  obtain⟨t,rfl⟩:=rx
  cases y with
  | non=>cases ry; exact PySem.EqNone.ne_str_none (fin_bl I q (by simp))
  | bl j=>cases ry; exact PySem.EqMixed.ne_str_bool (fin_bl I q (by simp))
  | int j=>obtain⟨t',rfl⟩:=ry; exact PySem.EqMixed.ne_str_int (fin_bl I q (by simp))
  | str j=>obtain⟨t',rfl⟩:=ry; exact ne_str (fin_bl I q (congrArg not dec_str))
  | _=>exact absurd (show false=true from hs) Bool.false_ne_true
 | byt i=>
  obtain⟨t,rfl⟩:=rx
  cases y with
  | byt j=>obtain⟨t',rfl⟩:=ry; exact PySem.W.ne_bytes (fin_bl I q (congrArg not dec_byt))
  | _=>exact absurd (show false=true from hs) Bool.false_ne_true
 | _=>cases y <;> exact absurd (show false=true from hs) Bool.false_ne_true
theorem op_lt:OpR X (compareOp .Lt) (rI0 fun i j=>.bl (decide (i<j))):=opB0 fun _ _ _ _ _ _ _ q=>lt_int q
theorem op_le:OpR X (compareOp .LtE) (rI0 fun i j=>.bl (decide (i≤j))):=opB0 fun _ _ _ _ _ _ _ q=>le_int q
theorem op_gt:OpR X (compareOp .Gt) (rI0 fun i j=>.bl (decide (j<i))):=opB0 fun _ _ _ _ _ _ _ q=>gt_int q
theorem op_in_str:OpR X (compareOp .In) (fun x y H Q=>∃ i j,x=.str i∧y=.str j∧Q (.bl (!(Builtin.Str.occurrences j i 0 j.length 1).isEmpty)) H):=by
 intro pins s σ H x y v u Q I rx ry h
 obtain⟨i,j,rfl,rfl,q⟩:=h
 obtain⟨t,rfl⟩:=rx
 obtain⟨t',rfl⟩:=ry
 exact in_str (fin_bl I q rfl)
theorem op_notN:OpR X (compareOp .IsNot) (fun x y H Q=>y=.non∧Q (.bl (!decide (x=.non))) H):=by
 intro pins s σ H x y v u Q I rx ry h
 obtain⟨rfl,q⟩:=h
 cases ry
 refine isnot_none_gen (fin_bl I q ?_)
 cases x <;> first
  | (cases rx; rfl)
  | (obtain⟨t,rfl⟩:=rx; rfl)
theorem nomark (b:Expr) {op:CmpOp} (h:op≠.In:=by decide) (h2:op≠.NotIn:=by decide):behindInMarks op b=false:=by
 have e1:(op==CmpOp.In)=false:=by cases op <;> first | rfl | exact absurd rfl h
 have e2:(op==CmpOp.NotIn)=false:=by cases op <;> first | rfl | exact absurd rfl h2
 cases b <;> simp [behindInMarks,e1,e2]
theorem pe_cmpR {op:CmpOp} {r:R2} (ho:OpR X (compareOp op) r) (ha:PE X a ta) (hb:PE X b tb) (hm:behindInMarks op b=false):PE X (.Compare a [op] [b] pos) (tOp r ta tb):=by
 intro pins s σ H Q I h
 exact wpAny_Compare1 (binT ha hb I h fun v u s2 x y H2 I2 rx ry q=>ho pins s2 σ H2 x y v u Q I2 rx ry q) hm
def tTest (t:TE):TT:=fun σ H Q=>t σ H fun x H'=>∃ k,x=.bl k∧Q k H'
theorem pt_cmpR {op:CmpOp} {r:R2} (ho:OpR X (compareOp op) r) (ha:PE X a ta) (hb:PE X b tb) (hm:behindInMarks op b=false):PT X (.Compare a [op] [b] pos) (tTest (tOp r ta tb)):=by
 intro pins s σ H Q I h
 refine wpAny_isTrue_Compare1 (thn (ha pins s σ H _ I h) fun v s1 ⟨x,H1,I1,r1,q1⟩=>thn (hb pins s1 σ H1 _ I1 q1) fun u s2 ⟨y,H2,I2,r2,q2⟩=>
  thn (ho pins s2 σ H2 x y v u _ I2 r1 r2 q2) fun c s3 ⟨z,H3,I3,r3,k,e,q3⟩=>?_) hm
 subst e
 cases r3
 exact wpAny_truthy_bool ⟨H3,I3,q3⟩
def tChain (r r':R2) (ta tb tc:TE):TE:=fun σ H Q=>ta σ H fun x H1=>tb σ H1 fun y H2=>r x y H2 fun z H3=>∃ k,z=.bl k∧
 (if k=true then tc σ H3 fun w' H4=>r' y w' H4 Q else Q (.bl false) H3)
theorem pt_chain {op op':CmpOp} {r r':R2} (ho:OpR X (compareOp op) r) (ho':OpR X (compareOp op') r') (ha:PE X a ta) (hb:PE X b tb) (hc:PE X c tc)
  (hm:lastMarks [op,op'] [b,c]=false:=by with_unfolding_all rfl):PT X (.Compare a [op,op'] [b,c] pos) (tTest (tChain r r' ta tb tc)):=by
 intro pins s σ H Q I h
 refine isTrue_chain (thn (ha pins s σ H _ I h) fun v s1 ⟨x,H1,I1,r1,q1⟩=>test_link (thn (hb pins s1 σ H1 _ I1 q1) fun u s2 ⟨y,H2,I2,r2,q2⟩=>
  thn (ho pins s2 σ H2 x y v u _ I2 r1 r2 q2) fun d s3 ⟨z,H3,I3,r3,k,e,q3⟩=>?_)) hm
 subst e
 cases r3
 refine wpAny_truthy_bool ?_
 cases k with
 | false=>
  obtain⟨k',e',q'⟩:=q3
  cases e'
  exact ite_ff ⟨H3,I3,q'⟩
 | true=>
  refine ite_tt (test_last (thn (hc pins s3 σ H3 _ I3 q3) fun w' s4 ⟨z',H4,I4,r4,q4⟩=>thn (ho' pins s4 σ H4 y z' u w' _ I4 r2 r4 q4) fun d' s5 ⟨z2,H5,I5,r5,k2,e2,q5⟩=>?_))
  subst e2
  cases r5
  exact wpAny_truthy_bool ⟨H5,I5,q5⟩
def TruV (K:PySem.W.Frag) (x:V) (H:Hp) (k:Bool):Prop:=
 match x with
 | .non=>k=false
 | .bl b=>k=b
 | .int i=>k=(i != 0)
 | .str y=>y.length≤sizeLine∧k=((y.length:Int) != 0)
 | .byt y=>y.size≤sizeLine∧k=((y.size:Int) != 0)
 | .ref p=>(∃ xs,SqL K H p xs∧k = !xs.isEmpty)∨(∃ xs,SqT K H p xs∧k = !xs.isEmpty)∨∃ kvs,H p=some (.dK kvs)∧k = !kvs.isEmpty
 | _=>False
theorem isEmpty_kv {κ:Type} {kvs:List (κ×V)} {vs:List (κ×Value)} (r:KV kvs vs):(!vs.isEmpty) = !kvs.isEmpty:=by
 cases r <;> rfl
theorem isEmpty_of {xs:List V} {its:List Value} (r:Vals xs its):(!its.toArray.isEmpty) = !xs.isEmpty:=by
 cases r <;> simp
theorem line63:(sizeLine:Nat)<2 ^ 63:=by rw [sizeLine_eq]; decide
theorem tru_ok:TruR X (fun x H Q=>∃ k,TruV X.K x H k∧Q k H):=by
 intro pins s σ H x v Q I rx h
 obtain⟨k,e,q⟩:=h
 have hl:=line63
 have hs:sizeLine=16777216:=sizeLine_eq
 cases x with
 | non=>
  cases rx
  have e':k=false:=e
  subst e'
  exact truthy_none ⟨H,I,q⟩
 | bl b=>
  cases rx
  have e':k=b:=e
  subst e'
  exact wpAny_truthy_bool ⟨H,I,q⟩
 | int i=>
  obtain⟨t,rfl⟩:=rx
  have e':k=(i != 0):=e
  subst e'
  exact PySem.P.truthy_int ⟨H,I,q⟩
 | str y=>
  obtain⟨t,rfl⟩:=rx
  obtain⟨hy,e'⟩:y.length≤sizeLine∧k=((y.length:Int) != 0):=e
  subst e'
  exact PySem.P.truthy_str (by omega) ⟨H,I.tok _,q⟩
 | byt y=>
  obtain⟨t,rfl⟩:=rx
  obtain⟨hy,e'⟩:y.size≤sizeLine∧k=((y.size:Int) != 0):=e
  subst e'
  exact PySem.W.truthy_bytes (by omega) ⟨H,I.tok _,q⟩
 | ref p=>
  cases rx
  have e':(∃ xs,SqL X.K H p xs∧k = !xs.isEmpty)∨(∃ xs,SqT X.K H p xs∧k = !xs.isEmpty)∨∃ kvs,H p=some (.dK kvs)∧k = !kvs.isEmpty:=e
  rcases e' with ⟨xs,hx,e'⟩ | ⟨xs,hx,e'⟩ | ⟨kvs,hx,e'⟩
  ·subst e'
   obtain⟨its,r,pl,hz⟩:=I.list hx
   have hlen:=r.length
   exact wpAny_truthy_list pl.isList (by simp only [List.size_toArray]; omega) ⟨H,I.tok _,by rw [isEmpty_of r]; exact q⟩
  ·subst e'
   obtain⟨its,r,pl,hz⟩:=I.tuple hx
   have hlen:=r.length
   exact truthy_tuple pl (by simp only [List.size_toArray]; omega) ⟨H,I.tok _,by rw [isEmpty_of r]; exact q⟩
  ·subst e'
   obtain⟨hz,hS,vs,r,m⟩:kvs.length≤sizeLine∧(p==sysModules)=false∧∃ vs,KV kvs vs∧s.heap.DictOf (mixKind X.prog X.w) p vs:=I.hok p _ hx
   have hlen:kvs.length=vs.length:=Paired.length r
   exact wpAny_truthy_dict hS m (by omega) ⟨H,I.tok _,by rw [isEmpty_kv r]; exact q⟩
 | _=>exact(show False from e).elim
theorem pt_truth (ha:PE X a ta) (he:∀ whole,isTrue a X.env whole=(do let v ← whole; standAt a.pos; holding [v] (truthy v))) :
  PT X a (fun σ H Q=>ta σ H fun x H'=>∃ k,TruV X.K x H' k∧Q k H'):=by
 intro pins s σ H Q I h
 exact isTrue_plain (thn (ha pins s σ H _ I h) fun v s1 ⟨x,H1,I1,r1,q1⟩=>tru_ok pins s1 σ H1 x v Q I1 r1 q1) (he _)
theorem op_add_str:OpR X (binaryOp .Add) (fun x y H Q=>∃ i j,x=.str i∧y=.str j∧i.length+j.length≤sizeLine∧Q (.str (i++j)) H):=by
 intro pins s σ H x y v u Q I rx ry h
 obtain⟨i,j,rfl,rfl,hz,q⟩:=h
 obtain⟨t,rfl⟩:=rx
 obtain⟨t',rfl⟩:=ry
 exact add_str (fun t' tk=>⟨.str (i++j),H,I.tok _,⟨_,rfl⟩,q⟩) hz
theorem vals1 {x:V} {us:List Value} (r:Vals [x] us):∃ u,us=[u]∧RelV x u:=by
 cases r with
 | cons r1 r2=>cases r2; exact⟨_,rfl,r1⟩
theorem vals2 {x y:V} {us:List Value} (r:Vals [x,y] us):∃ u w',us=[u,w']∧RelV x u∧RelV y w':=by
 cases r with
 | cons r1 r2=>
  cases r2 with
  | cons r3 r4=>cases r4; exact⟨_,_,rfl,r1,r3⟩
theorem call_abs:CallR X (.builtin "abs") (fun xs H Q=>∃ i,xs=[.int i]∧Q (.int (if i<0 then -i else i)) H):=by
 intro pins s σ H xs us Q I r h
 obtain⟨i,rfl,q⟩:=h
 obtain⟨u,rfl,t,rfl⟩:=vals1 r
 exact call_abs_int fun u tk=>⟨.int (if i<0 then -i else i),H,I.tok _,⟨_,rfl⟩,q⟩
theorem call_max2 (hc:X.calm=true):CallR X (.builtin "max") (fun xs H Q=>∃ i j,xs=[.int i,.int j]∧Q (.int (if j > i then j else i)) H):=by
 intro pins s σ H xs us Q I r h
 obtain⟨i,j,rfl,q⟩:=h
 obtain⟨u,w',rfl,⟨t,rfl⟩,⟨t',rfl⟩⟩:=vals2 r
 refine max_two_ints (I.ok.hd hc) fun h' tk k=>⟨_,H,I.kept k,?_,q⟩
 by_cases hj:j > i
 ·rw [if_pos hj,if_pos hj]; exact⟨_,rfl⟩
 ·rw [if_neg hj,if_neg hj]; exact⟨_,rfl⟩
theorem call_divmod:CallR X (.builtin "divmod") (fun xs H Q=>∃ i j,xs=[.int i,.int j]∧CDiv i j∧∀ p,H p=none→Q (.ref p) (upd H p (.tup [.int (i / j),.int (i % j)]))):=by
 intro pins s σ H xs us Q I r h
 obtain⟨i,j,rfl,⟨h1,h2⟩,q⟩:=h
 obtain⟨u,w',rfl,⟨t,rfl⟩,⟨t',rfl⟩⟩:=vals2 r
 refine divmod_int (by omega) ?_ (.inl (PyProof.noPylong_small (by omega)))
 rw [Int.fdiv_eq_ediv_of_nonneg i (by omega),Int.fmod_eq_emod_of_nonneg i (by omega)]
 have hn:H s.heap.objs.size=none:=I.hok.fresh (Nat.le_refl _)
 refine⟨.ref s.heap.objs.size,_,?_,rfl,q _ hn⟩
 refine I.laid (fun b o e=>Heap.get?_push_of_some _ e) (Nat.le_refl _) ⟨by simp only [List.length_cons,List.length_nil]; rw [sizeLine_eq]; decide,[.int (i / j) s.toks,.int (i % j) (s.toks+1)],.cons ⟨_,rfl⟩ (.cons ⟨_,rfl⟩ .nil),?_⟩
 exact⟨_,Heap.get?_push_size s.heap rfl,rfl,0,rfl⟩
end
structure ObjM (h:Heap) (x dx C:Addr) (mA:Str→Option Value):Prop where
 obj:h.get? x=some (PySem.W.instObj C dx)
 ns:h.Ns1 dx mA
 ne:dx≠x
theorem lookIn_ns {h:Heap} {dx:Addr} {mA:Str→Option Value} (n:h.Ns1 dx mA):∃ od,h.get? dx=some od∧∀ name,PySem.W.lookIn name od=some (mA name):=by
 obtain⟨o,es,ep,ho,hd,hk,_,hm⟩:=n
 refine⟨o,ho,fun name=>?_⟩
 have e:=hm name
 unfold nsFind findBy at e
 rw [← Array.find?_toList] at e
 unfold PySem.W.lookIn
 rw [hd]
 dsimp only
 split
 ·rename_i y q
  rw [q] at e
  exact congrArg some e
 ·rename_i q
  rw [q] at e
  have a:es.toList.any (·.refKey)=false:=by
   rw [List.any_eq_false]
   intro y hy
   obtain⟨z,t,hkey⟩:=hk y (Array.mem_toList_iff.mp hy)
   simp [DictEntry.refKey,hkey]
  have a':¬ es.toList.any (·.refKey)=true:=by rw [a]; exact Bool.false_ne_true
  rw [if_neg a']
  exact congrArg some e
theorem ObjM.look {h:Heap} {x dx C:Addr} {mA:Str→Option Value} (I:ObjM h x dx C mA):∃ od,PySem.W.InstAt h x (PySem.W.instObj C dx) C (some od)∧∀ name,PySem.W.lookIn name od=some (mA name):=
 let ⟨od,ho,hl⟩:=lookIn_ns I.ns
 ⟨od,⟨I.obj,rfl,rfl,ho⟩,hl⟩
section
variable {prog:Program} {w:World} {A:Around} {E:Value→Shared→Prop} {s:Shared} {K:PySem.W.Frag} {x dx C f:Addr} {mA:Str→Option Value} {name:Str} {v:Value}
theorem get_map {expr:Bool} {Q:Value→Shared→Prop} (X:K.In s.heap) (I:ObjM s.heap x dx C mA) (hg:PySem.W.plainGet K C name=true) (hh:PySem.W.hasDictIn K C=true)
  (ha:PySem.W.findIn K (.ref C) name=some none) (hv:mA name=some v) (hv':PySem.W.handedIn v=true) (h:Q v {s with toks:=s.toks+1}) :
  wpAny (model prog w) A (getAttr (.ref x) name expr) Q E s:=by
 obtain⟨od,J,hl⟩:=I.look
 exact PySem.W.get_value X J (PySem.W.plainGet_of hg).1 (PySem.W.findObj_own hh ha rfl (by rw [hl,hv])) hv' h
theorem get_meth {pl:Sem Bool} {Q:Value×List Value→Shared→Prop} (X:K.In s.heap) (I:ObjM s.heap x dx C mA) (hg:PySem.W.plainGet K C name=true)
  (hf:PySem.W.findIn K (.ref C) name=some (some (.ref f))) (ht:PySem.W.isFn K (.ref f)=true) (hv:mA name=none) (h:Q (.ref f,[.ref x]) s) :
  wpAny (model prog w) A (getMethod (.ref x) name pl) Q E s:=by
 obtain⟨od,J,hl⟩:=I.look
 exact PySem.W.method_fn X J (PySem.W.plainGet_of hg).1 (PySem.W.plainGet_of hg).2 hf (beq_iff_eq.mp ht) (by show (PySem.W.lookIn name od).map (·.isSome)=some false; rw [hl,hv]; rfl) h
theorem set_map {ns:List Str} {Q:Unit→Shared→Prop} (X:K.In s.heap) (I:ObjM s.heap x dx C mA)
  (hs:PySem.W.findIn K (.ref C) "__setattr__"=some (some (.builtin "object.__setattr__"))) (hp:PySem.W.plainOver K C=true) (ht:PySem.W.takerIn K C name=some none) (hh:PySem.W.hasDictIn K C=true)
  (hw:PySem.Within mA ns) (hsz:ns.length≤sizeLine)
  (h:∀ h',ObjM h' x dx C (fun y=>if y=name then some v else mA y)→Heap.SameBut dx s.heap h'→Q () {s with heap:=h',toks:=s.toks+2}) :
  wpAny (model prog w) A (setAttr (.ref x) name v) Q E s:=by
 obtain⟨od,J,hl⟩:=I.look
 refine PySem.W.set_plain X J hs (PySem.W.osa_open (s:={s with toks:=s.toks+1}) (r:=none) X J hp ht fun b=>?_)
 obtain⟨cd,hc,hd'⟩:=PySem.W.any_some hh
 have hx:s.heap.get? x=some ⟨.ref C,some dx,.plain,#[]⟩:=I.obj
 refine wpAny_bind (wpAny_pure (wpAny_bind (wpAny_bind (wpAny_loadPart hx (wpAny_bind (PySem.W.Looks.here (s:={s with toks:=s.toks+1}) (PySem.W.looks_clsIn X hc) ?_))))))
 rw [hd']
 refine wpAny_pure (a:=some dx) (wpAny_bind (wpAny_pure (wpAny_bind ?_)))
 refine wpAny_nsSet1 (s:={s with toks:=s.toks+1}) I.ns fun h' hn2 hs2=>?_
 obtain⟨oD,esD,epD,hoD,hdD,hcD⟩:=hn2.count (PySem.Within.cons name v hw)
 refine wpAny_bind (wpAny_lookBehind hoD (by rw [hdD]; exact pastItsLine_dict (Nat.le_trans hcD (by rw [List.length_cons]; omega))) ?_)
 exact wpAny_pure (h _ ⟨(hs2.2 _ (Ne.symm I.ne)).trans I.obj,hn2,I.ne⟩ hs2)
theorem make_map {R:Result→Shared→Prop} {vs:List Value} {kw:List (Str×Value)} (X:K.In s.heap) (hm:PySem.W.makesIn K C=true)
  (hi:PySem.W.findIn K (.ref C) "__init__"=some (some (.ref f))) (hf:PySem.W.typeIn K (.ref f)=some (.type "function"))
  (h:codeAny (model prog w) (A.under (.builtin "type.__call__" ⟨.ref C::vs,kw⟩)) (.call (.ref f) ⟨.ref (s.heap.objs.size+1)::vs,kw⟩) (PySem.W.InitBack (s.heap.objs.size+1) R)
   {s with heap:=(s.heap.push PySem.W.emptyDict).push (PySem.W.instObj C s.heap.objs.size)}) :
  codeAny (model prog w) A (.call (.ref C) ⟨vs,kw⟩) R s:=by
 obtain⟨hh,g,d,t,os⟩:=s
 exact PySem.W.make_core (PySem.W.makes_of X hm) (PySem.W.looks_findIn X hi) (fun self=>PySem.W.bind_fn X self hf) (.inl rfl) h
end
def putF (f:Str) (v:V):List (Str×V)→List (Str×V)
 | []=>[(f,v)]
 | (g,x)::r=>if g=f then (g,v)::r else (g,x)::putF f v r
theorem lookup_putF (f g:Str) (v:V):∀ fs:List (Str×V),(putF f v fs).lookup g=if g=f then some v else fs.lookup g
 | []=>by
  show List.lookup g [(f,v)]=_
  by_cases h:g=f
  ·have hb:(g==f)=true:=beq_iff_eq.mpr h
   simp only [List.lookup,hb,if_pos h]
  ·have hb:(g==f)=false:=beq_eq_false_iff_ne.mpr h
   simp only [List.lookup,hb,if_neg h]
 | (k,x)::r=>by
  have ih:=lookup_putF f g v r
  rw [show putF f v ((k,x)::r)=(if k=f then (k,v)::r else (k,x)::putF f v r) from rfl]
  by_cases hk:k=f
  ·rw [if_pos hk]
   by_cases h:g=k
   ·have hb:(g==k)=true:=beq_iff_eq.mpr h
    simp only [List.lookup,hb,if_pos (h.trans hk)]
   ·have hb:(g==k)=false:=beq_eq_false_iff_ne.mpr h
    simp only [List.lookup,hb,if_neg (fun e:g=f=>h (e.trans hk.symm))]
  ·rw [if_neg hk]
   by_cases h:g=k
   ·have hb:(g==k)=true:=beq_iff_eq.mpr h
    simp only [List.lookup,hb,if_neg (fun e:g=f=>hk (h.symm.trans e))]
   ·have hb:(g==k)=false:=beq_eq_false_iff_ne.mpr h
    simp only [List.lookup,hb]
    exact ih
theorem keys_putF (f:Str) (v:V):∀ fs:List (Str×V),f∈(putF f v fs).map (·.1)∧∀ g,g∈fs.map (·.1)→g∈(putF f v fs).map (·.1)
 | []=>⟨by simp [putF],fun g h=>by simp at h⟩
 | (k,x)::r=>by
  obtain⟨i1,i2⟩:=keys_putF f v r
  rw [show putF f v ((k,x)::r)=(if k=f then (k,v)::r else (k,x)::putF f v r) from rfl]
  by_cases hk:k=f
  ·rw [if_pos hk]
   subst hk
   exact⟨by simp,fun g h=>by simpa using h⟩
  ·rw [if_neg hk]
   refine⟨?_,fun g h=>?_⟩
   ·rw [List.map_cons]
    exact List.mem_cons_of_mem _ i1
   ·rw [List.map_cons] at h ⊢
    rcases List.mem_cons.mp h with e | e
    ·exact List.mem_cons.mpr (.inl e)
    ·exact List.mem_cons_of_mem _ (i2 g e)
theorem length_putF (f:Str) (v:V):∀ fs:List (Str×V),(putF f v fs).length≤fs.length+1
 | []=>by simp [putF]
 | (k,x)::r=>by
  have ih:=length_putF f v r
  rw [show putF f v ((k,x)::r)=(if k=f then (k,v)::r else (k,x)::putF f v r) from rfl]
  by_cases hk:k=f
  ·rw [if_pos hk,List.length_cons,List.length_cons]; omega
  ·rw [if_neg hk,List.length_cons,List.length_cons]; omega
theorem RelO.some_of {v:V} {o:Option Value} (r:RelO (some v) o):∃ u,o=some u∧RelV v u:=by
 cases o with
 | none=>exact(show False from r).elim
 | some u=>exact⟨u,rfl,r⟩
theorem RelO.none_of {o:Option Value} (r:RelO none o):o=none:=by
 cases o with
 | none=>rfl
 | some u=>exact(show False from r).elim
theorem handed_of {v:V} {u:Value} (r:RelV v u):PySem.W.handedIn u=true:=by
 cases v with
 | non=>cases (show u=Value.none from r); rfl
 | bl b=>cases (show u=Value.bool b from r); rfl
 | int i=>obtain⟨t,e⟩:=(show ∃ t,u=Value.int i t from r); cases e; rfl
 | str x=>obtain⟨t,e⟩:=(show ∃ t,u=Value.str x t from r); cases e; rfl
 | byt b=>obtain⟨t,e⟩:=(show ∃ t,u=Value.bytes b t from r); cases e; rfl
 | flt b=>obtain⟨t,e⟩:=(show ∃ t,u=Value.float b t from r); cases e; rfl
 | ref a=>cases (show u=Value.ref a from r); rfl
 | ty n=>cases (show u=Value.type n from r); rfl
section
variable {P:Program} {w:World} {H H':Hp} {h h':Heap} {a C dx:Addr} {fs fs':List (Str×V)}
theorem ins_get (hok:HOk P w H h) (e:H a=some (.ins C dx fs)):∃ mA,ObjM h a dx C mA∧(∀ f,RelO (fs.lookup f) (mA f))∧PySem.Within mA (fs.map (·.1))∧fs.length≤1000∧H dx=some (.own a):=by
 obtain⟨d,z,ne,ob,mA,n,r,q⟩:=(show ObjOk P w H h a (.ins C dx fs) from hok a _ e)
 exact⟨mA,⟨ob,n,ne⟩,r,q,z,d⟩
end
structure Cls (K:PySem.W.Frag) (C:Addr):Prop where
 pg:PySem.W.plainGet K C Str.empty=true
 hd:PySem.W.hasDictIn K C=true
 po:PySem.W.plainOver K C=true
 sa:PySem.W.findIn K (.ref C) "__setattr__"=some (some (.builtin "object.__setattr__"))
theorem Cls.get {K:PySem.W.Frag} {C:Addr} (c:Cls K C) (f:Str):PySem.W.plainGet K C f=true:=c.pg
def NoAttr (K:PySem.W.Frag) (C:Addr) (f:Str):Prop:=PySem.W.findIn K (.ref C) f=some none
theorem NoAttr.taker {K:PySem.W.Frag} {C:Addr} {f:Str} (n:NoAttr K C f):PySem.W.takerIn K C f=some none:=by
 unfold PySem.W.takerIn
 rw [show PySem.W.findIn K (.ref C) f=some none from n]
 rfl
structure Con (K:PySem.W.Frag) (C:Addr) (f:Str) (v:V) (u:Value):Prop where
 at_:PySem.W.findIn K (.ref C) f=some (some u)
 rel:RelV v u
 get:PySem.W.specialIn K u "__get__"=some none
 cp:PySem.W.copiedNames.contains f=false
structure Meth (K:PySem.W.Frag) (C:Addr) (m:Str) (f:Addr):Prop where
 at_:PySem.W.findIn K (.ref C) m=some (some (.ref f))
 fn:PySem.W.isFn K (.ref f)=true
 kp:PySem.W.keepIn K (.ref f)=true
section
variable {X:Cx} {pins:List (Addr×Obj)} {σ:St} {H:Hp} {s:Shared} {a C dx:Addr} {fs:List (Str×V)} {f:Str} {v:V} {A:Around} {E:Value→Shared→Prop}
theorem getattr_ok {b:Bool} {Q:Value→Shared→Prop} (I:Inv X pins σ H s) (e:H a=some (.ins C dx fs)) (c:Cls X.K C) (n:NoAttr X.K C f) (l:fs.lookup f=some v)
  (h:∀ u s',Inv X pins σ H s'→RelV v u→Q u s'):wpAny (model X.prog X.w) A (getAttr (.ref a) f b) Q E s:=by
 obtain⟨mA,O,r,_,_,_⟩:=ins_get I.hok e
 obtain⟨u,hu,ru⟩:=RelO.some_of (v:=v) (o:=mA f) (by rw [← l]; exact r f)
 exact get_map I.kIn O (c.get f) c.hd n hu (handed_of ru) (h u _ (I.tok _) ru)
theorem getmeth_ok {m:Str} {g:Addr} {pl:Sem Bool} {Q:Value×List Value→Shared→Prop} (I:Inv X pins σ H s) (e:H a=some (.ins C dx fs)) (c:Cls X.K C) (k:Meth X.K C m g) (l:fs.lookup m=none)
  (h:Q (.ref g,[.ref a]) s):wpAny (model X.prog X.w) A (getMethod (.ref a) m pl) Q E s:=by
 obtain⟨mA,O,r,_,_,_⟩:=ins_get I.hok e
 have hn:mA m=none:=RelO.none_of (by rw [← l]; exact r m)
 exact get_meth I.kIn O (c.get m) k.at_ k.fn hn h
theorem setattr_ok {y:V} {u:Value} {Q:Unit→Shared→Prop} (I:Inv X pins σ H s) (e:H a=some (.ins C dx fs)) (c:Cls X.K C) (n:NoAttr X.K C f) (hl:fs.length<1000) (ry:RelV y u)
  (h:∀ s',Inv X pins σ (upd H a (.ins C dx (putF f y fs))) s'→Q () s'):wpAny (model X.prog X.w) A (setAttr (.ref a) f u) Q E s:=by
 obtain⟨mA,O,r,wi,_,ho⟩:=ins_get I.hok e
 have hz:(fs.map (·.1)).length≤sizeLine:=by rw [List.length_map,sizeLine_eq]; omega
 refine set_map I.kIn O c.sa c.po n.taker c.hd wi hz fun h' O' sb=>h _ ?_
 have hd:∃ o,h'.get? dx=some o:=let ⟨o,_,_,e',_⟩:=O'.ns; ⟨o,e'⟩
 refine I.write (x:=a) (e:=dx) (by rw [e]; exact True.intro) (.inr ho) (fun b q hb z=>(sb.2 b hb).trans z) hd ?_
 refine⟨by rw [upd_ne O.ne]; exact ho,?_,O.ne,O'.obj,_,O'.ns,fun g=>?_,fun g hg=>?_⟩
 ·have:=length_putF f y fs; omega
 ·show RelO ((putF f y fs).lookup g) (if g=f then some u else mA g)
  rw [lookup_putF]
  by_cases q:g=f
  ·rw [if_pos q,if_pos q]; exact ry
  ·rw [if_neg q,if_neg q]; exact r g
 ·by_cases q:g=f
  ·rw [q]; exact(keys_putF f y fs).1
  ·refine(keys_putF f y fs).2 g (wi g fun z=>hg ?_)
   show (if g=f then some u else mA g)=none
   rw [if_neg q]; exact z
theorem Inv.made (I:Inv X pins σ H s):Inv X pins σ (upd (upd H s.heap.objs.size (.own (s.heap.objs.size+1))) (s.heap.objs.size+1) (.ins C s.heap.objs.size []))
  {s with heap:=(s.heap.push PySem.W.emptyDict).push (PySem.W.instObj C s.heap.objs.size)}:=by
 have e1:(s.heap.push PySem.W.emptyDict).get? s.heap.objs.size=some PySem.W.emptyDict:=Heap.get?_push_size s.heap rfl
 have e2:((s.heap.push PySem.W.emptyDict).push (PySem.W.instObj C s.heap.objs.size)).get? (s.heap.objs.size+1)=some (PySem.W.instObj C s.heap.objs.size):=by
  have:=Heap.get?_push_size (s.heap.push PySem.W.emptyDict) (o:=PySem.W.instObj C s.heap.objs.size) rfl
  rwa [Heap.size_push] at this
 have e3:(s.heap.push PySem.W.emptyDict).Ns s.heap.objs.size (fun _=>none):=⟨PySem.W.emptyDict,#[],_,e1,rfl,(fun e he=>absurd he (by simp)),fun _=>rfl⟩
 have I1:=I.laid (a:=s.heap.objs.size) (o:=.own (s.heap.objs.size+1)) (h':=s.heap.push PySem.W.emptyDict) (t':=s.toks) (fun b u q=>Heap.get?_push_of_some _ q) (Nat.le_refl _) ⟨_,e1⟩
 refine I1.laid (a:=s.heap.objs.size+1) (o:=.ins C s.heap.objs.size []) (t':=s.toks) (fun b u q=>Heap.get?_push_of_some _ q) (Nat.le_of_eq (Heap.size_push _ _)) ?_
 have ne:s.heap.objs.size≠s.heap.objs.size+1:=Nat.ne_of_lt (Nat.lt_succ_self _)
 refine⟨by rw [upd_ne ne,upd_same],Nat.zero_le _,ne,e2,fun _=>none,(Heap.Ns1.of_empty e3).at fun o q=>Heap.get?_push_of_some _ q,fun _=>True.intro,fun y hy=>absurd rfl hy⟩
theorem attr_of {prog:Program} {w:World} {env:Env} {e:Expr} {f:Str} {pos:Pos} {s:Shared} {Q:Value→Shared→Prop} (hb:attributeBase e f env (eval e env)=eval e env)
  (h:wpAny (model prog w) A (eval e env) (fun o s₁=>wpAny (model prog w) A (getAttr o f true) Q E s₁) E s):wpAny (model prog w) A (eval (.Attribute e f pos) env) Q E s:=
 Attribute_any_ h (by rw [arm_eval_Attribute,hb])
end
def tFld (K:PySem.W.Frag) (ta:TE) (f:Str):TE:=fun σ H Q=>ta σ H fun x H1=>∃ a C dx fs v,x=.ref a∧H1 a=some (.ins C dx fs)∧Cls K C∧NoAttr K C f∧fs.lookup f=some v∧Q v H1
def sFld (K:PySem.W.Frag) (ta tv:TE) (f:Str):TS:=fun D σ H=>tv σ H fun y H1=>ta σ H1 fun x H2=>∃ a C dx fs,x=.ref a∧H2 a=some (.ins C dx fs)∧Cls K C∧NoAttr K C f∧fs.length<1000∧
 D.nx σ (upd H2 a (.ins C dx (putF f y fs)))
section
variable {X:Cx} {o e value:Expr} {f:Str} {pos pos' tpos:Pos} {ta tv:TE}
theorem pe_fld (he:PE X e ta) (hb:attributeBase e f X.env (eval e X.env)=eval e X.env):PE X (.Attribute e f pos) (tFld X.K ta f):=by
 intro pins s σ H Q I h
 refine attr_of hb (thn (he pins s σ H _ I h) fun u s1 ⟨x,H1,I1,rx,a,C,dx,fs,v,ex,ea,c,n,l,q⟩=>?_)
 subst ex
 obtain rfl:u=Value.ref a:=rx
 exact getattr_ok I1 ea c n l fun u' s2 I2 ru=>⟨v,H1,I2,ru,q⟩
theorem ps_fld (ha:PE X o ta) (hv:PE X value tv) (hs:swapsWith value (some (.Attribute o f pos')) pos.line X.env=pure false):PS X (.Assign [.Attribute o f pos'] value pos) (sFld X.K ta tv f):=by
 intro pins s σ H D I h
 refine plainObj_wpAny_Assign_Attribute (thn (hv pins s σ H _ I h) fun u s1 ⟨y,H1,I1,ry,q⟩=>thn (ha pins s1 σ H1 _ I1 q) fun ov s2 ⟨x,H2,I2,rx,a,C,dx,fs,ex,ea,c,n,l,q2⟩=>?_) hs
 subst ex
 obtain rfl:ov=Value.ref a:=rx
 exact setattr_ok I2 ea c n l ry fun s3 I3=>⟨σ,_,I3,q2⟩
end
section
variable {X:Cx} {pins:List (Addr×Obj)} {σ:St} {H:Hp} {s:Shared} {A:Around} {E:Value→Shared→Prop} {Q:Value→Shared→Prop} {c:Value} {b:Bool}
inductive TyOf (K:PySem.W.Frag) (H:Hp):V→Value→Prop where
 | non:TyOf K H .non (.type "NoneType")
 | bl (x:Bool):TyOf K H (.bl x) (.type "bool")
 | int (i:Int):TyOf K H (.int i) (.type "int")
 | str (x:Str):TyOf K H (.str x) (.type "str")
 | flt (x:UInt64):TyOf K H (.flt x) (.type "float")
 | lst {a:Addr} {xs:List V} (e:H a=some (.lst xs)):TyOf K H (.ref a) (.type "list")
 | frz {a:Addr} {o:Obj} {xs:List V} (e:H a=some (.frz o (.lst xs))):TyOf K H (.ref a) (.type "list")
 | tup {a:Addr} {xs:List V} (e:H a=some (.tup xs)):TyOf K H (.ref a) (.type "tuple")
 | dK {a:Addr} {kvs:List (Key×V)} (e:H a=some (.dK kvs)):TyOf K H (.ref a) (.type "dict")
 | dT {a:Addr} {kvs:List (List Key×V)} (e:H a=some (.dT kvs)):TyOf K H (.ref a) (.type "dict")
 | ins {a C dx:Addr} {fs:List (Str×V)} (e:H a=some (.ins C dx fs)) (cl:Cls K C) (ha:PySem.W.findIn K (.ref C) "__class__"=some (some (.builtin "object.__class__")))
   (hn:PySem.W.specialIn K (.builtin "object.__class__") "__get__"=some (some (.builtin "getset_descriptor.__get__"))) (htk:PySem.W.takesIn K (.builtin "object.__class__")=some true)
   (hm:PySem.W.mroIn K C (.type "object")=some true):TyOf K H (.ref a) (.ref C)
theorem isinst_ok {x:V} {u t:Value} (I:Inv X pins σ H s) (rx:RelV x u) (ty:TyOf X.K H x t) (e:PySem.W.kitOne X.K t c=some b) (h:∀ tk,Q (.bool b) {s with toks:=tk}) :
  wpAny (model X.prog X.w) A (call (.builtin "isinstance") [u,c]) Q E s:=by
 cases ty with
 | non=>cases (show u=Value.none from rx); exact PySem.W.kia_one PySem.W.kitx_none I.kIn True.intro e (fun z=>nomatch z) h
 | bl y=>cases (show u=Value.bool y from rx); exact PySem.W.kia_one PySem.W.kitx_bool I.kIn True.intro e (fun z=>nomatch z) h
 | int i=>obtain⟨t,q⟩:=(show ∃ t,u=Value.int i t from rx); cases q; exact PySem.W.kia_one PySem.W.kitx_int I.kIn True.intro e (fun z=>nomatch z) h
 | str y=>obtain⟨t,q⟩:=(show ∃ t,u=Value.str y t from rx); cases q; exact PySem.W.kia_one PySem.W.kitx_str I.kIn True.intro e (fun z=>nomatch z) h
 | flt y=>obtain⟨t,q⟩:=(show ∃ t,u=Value.float y t from rx); cases q; exact PySem.W.kia_one PySem.W.kitx_float I.kIn True.intro e (fun z=>nomatch z) h
 | @lst a xs ea=>
  cases (show u=Value.ref a from rx)
  obtain⟨_,_,n,_,h1⟩:=(show ObjOk X.prog X.w H s.heap a (.lst xs) from I.hok a _ ea)
  exact PySem.W.kia_one PySem.W.kitx_list I.kIn ⟨_,h1,rfl⟩ e (fun z=>nomatch z) h
 | @frz a ob xs ea=>
  cases (show u=Value.ref a from rx)
  obtain⟨_,_,_,n,_,h1⟩:=(show ObjOk X.prog X.w H s.heap a (.frz ob (.lst xs)) from I.hok a _ ea)
  exact PySem.W.kia_one PySem.W.kitx_list I.kIn ⟨_,h1,rfl⟩ e (fun z=>nomatch z) h
 | @tup a xs ea=>
  cases (show u=Value.ref a from rx)
  obtain⟨_,_,_,p⟩:=(show ObjOk X.prog X.w H s.heap a (.tup xs) from I.hok a _ ea)
  obtain⟨o,h1,h2,_⟩:=p
  exact PySem.W.kia_one PySem.W.kitx_tuple I.kIn ⟨o,h1,h2⟩ e (fun z=>nomatch z) h
 | @dK a kvs ea=>
  cases (show u=Value.ref a from rx)
  obtain⟨_,_,vs,_,p⟩:=(show ObjOk X.prog X.w H s.heap a (.dK kvs) from I.hok a _ ea)
  obtain⟨o,es,ep,h1,h2,_⟩:=p
  exact PySem.W.kia_one PySem.W.kitx_dict I.kIn ⟨o,h1,h2.1⟩ e (fun z=>nomatch z) h
 | @dT a kvs ea=>
  cases (show u=Value.ref a from rx)
  obtain⟨_,_,xs,_,o,es,ep,h1,h2,_⟩:=(show ObjOk X.prog X.w H s.heap a (.dT kvs) from I.hok a _ ea)
  exact PySem.W.kia_one PySem.W.kitx_dict I.kIn ⟨o,h1,h2.1⟩ e (fun z=>nomatch z) h
 | @ins a C dx fs ea cl ha hn htk hm=>
  cases (show u=Value.ref a from rx)
  obtain⟨mA,O,_⟩:=ins_get I.hok ea
  obtain⟨od,J,_⟩:=O.look
  exact PySem.W.kia_one (PySem.W.kitx_own (cl.get _) cl.hd ha hn htk hm) I.kIn J e (fun z=>nomatch z) h
end
structure Room (k:Nat) (A:Around):Prop where
 hd:A.handled=none
 gd:A.guards=some []
 dp:A.depth+3*k+5<recursionLimit
 un:A.units+16*k+200<cLine
theorem Room.mono {j k:Nat} {A:Around} (r:Room k A) (h:j≤k):Room j A:=⟨r.hd,r.gd,by have:=r.dp; omega,by have:=r.un; omega⟩
theorem Room.deeper {k:Nat} {A:Around} (r:Room (k+1) A) (env:Env):Room k (A.deeper env):=
 ⟨r.hd,r.gd,by have:=r.dp; show A.depth+1+3*k+5<_; omega,by have:=r.un; show A.units+3+16*k+200<_; omega⟩
theorem make_depth {A:Around} {C:Addr} {us:List Value} {kw:List (Str×Value)}:(A.under (.builtin "type.__call__" ⟨.ref C::us,kw⟩)).depth=A.depth+1:=by
 first | rfl | simp [Around.under,Code.weight,Code.isCreation,Code.isGuard,Code.isCaller,Code.frames,Code.isFrame,guardIds]
theorem make_units {A:Around} {C:Addr} {us:List Value} {kw:List (Str×Value)}:(A.under (.builtin "type.__call__" ⟨.ref C::us,kw⟩)).units=A.units+1:=by
 first | rfl | simp [Around.under,Code.cUnits,Code.frames,Code.isFrame]
theorem make_guards {A:Around} {C:Addr} {us:List Value} {kw:List (Str×Value)}:(A.under (.builtin "type.__call__" ⟨.ref C::us,kw⟩)).guards=A.guards:=by
  first
    | rfl
    | (show pushGuards (Code.guards _) A.guards=A.guards
       have e:Code.guards (.builtin "type.__call__" ⟨.ref C::us,kw⟩)=[]:=by first | rfl | (simp [Code.guards,Code.isGuard,guardIds])
       rw [e,pushGuards_eq]
       cases A.guards <;> simp)
theorem Room.make {k:Nat} {A:Around} (r:Room (k+1) A) (C:Addr) (us:List Value) (kw:List (Str×Value)):Room k (A.under (.builtin "type.__call__" ⟨.ref C::us,kw⟩)):=
 ⟨r.hd,by rw [make_guards]; exact r.gd,by have:=r.dp; rw [make_depth]; omega,by have:=r.un; rw [make_units]; omega⟩
theorem Room.depth {k:Nat} {A:Around} (r:Room k A):A.depth<recursionLimit:=by have:=r.dp; omega
theorem Room.units {k:Nat} {A:Around} (r:Room k A):A.units+64<cLine:=by have:=r.un; omega
theorem Room.units0 {k:Nat} {A:Around} (r:Room k A):A.units<cLine:=by have:=r.un; omega
def tNil:TA:=fun _ H Q=>Q [] H
def tCons (ta:TE) (tr:TA):TA:=fun σ H Q=>ta σ H fun x H1=>tr σ H1 fun xs H2=>Q (x::xs) H2
section
variable {X:Cx} {e:Expr} {es:List Expr} {te:TE} {t:TA} {pos:Pos}
theorem pa_nil:PA X [] tNil:=fun _ _ _ _ H Q I h=>Calls.spliced_nil ⟨[],H,I,.nil,h⟩
theorem pa_cons (ha:PE X e te) (hr:PA X es t) (hs:starEach (e::es) X.env=(false,eval e X.env)::starEach es X.env:=by rfl):PA X (e::es) (tCons te t):=by
 intro pos pins s σ H Q I h
 rw [hs]
 show wpAny _ _ (spliced ((false,eval e X.env)::backTo pos (starEach es X.env))) _ _ s
 refine Calls.spliced_cons (thn (ha pins s σ H _ I h) fun u s1 ⟨x,H1,I1,r1,q1⟩=>?_)
 exact thn (hr pos pins s1 σ H1 _ I1 q1) fun us s2 ⟨xs,H2,I2,r2,q2⟩=>⟨x::xs,H2,I2,.cons r1 r2,q2⟩
def tTup (t:TA):TE:=fun σ H Q=>t σ H fun xs H1=>xs.length≤sizeLine∧∀ p,H1 p=none→Q (.ref p) (upd H1 p (.tup xs))
def tLst (t:TA):TE:=fun σ H Q=>t σ H fun xs H1=>xs.length≤sizeLine∧∀ p,H1 p=none→Q (.ref p) (upd H1 p (.lst xs))
theorem pe_tup {x1} (h:PA X es t):PE X (.Tuple es x1 pos) (tTup t):=by
 intro pins s σ H Q I hq
 refine wpAny_Tuple_spliced (thn (h pos pins s σ H _ I hq) fun us s1 ⟨xs,H1,I1,r,z,q⟩=>⟨by rw [← r.length]; exact z,?_⟩)
 have hf:H1 s1.heap.objs.size=none:=I1.hok.fresh (Nat.le_refl _)
 refine⟨.ref s1.heap.objs.size,upd H1 s1.heap.objs.size (.tup xs),I1.laid (t':=s1.toks) (fun b u e=>Heap.get?_push_of_some _ e) (Nat.le_refl _) ?_,rfl,q _ hf⟩
 exact⟨z,us,r,⟨_,Heap.get?_push_size _ rfl,rfl,_,rfl⟩⟩
theorem pe_lst (h:PA X es t):PE X (.List es pos) (tLst t):=by
 intro pins s σ H Q I hq
 refine wpAny_List_spliced (thn (h pos pins s σ H _ I hq) fun us s1 ⟨xs,H1,I1,r,z,q⟩=>⟨by rw [← r.length]; exact z,?_⟩)
 have hf:H1 s1.heap.objs.size=none:=I1.hok.fresh (Nat.le_refl _)
 refine⟨.ref s1.heap.objs.size,upd H1 s1.heap.objs.size (.lst xs),I1.laid (t':=s1.toks) (fun b u e=>Heap.get?_push_of_some _ e) (Nat.le_refl _) ?_,rfl,q _ hf⟩
 exact⟨z,us,0,r,Heap.get?_push_size _ rfl⟩
end
abbrev Sp:=List V→Hp→VK→XK→Prop
abbrev CXT:=List Env→Hp→Shared→XK→Value→Shared→Prop
structure Env0 (P:Program) (w:World) (K:PySem.W.Frag) (mg:Str→Option Value) (base:Heap) (A:Around) (outer:List Env) (s:Shared) (H:Hp):Prop where
 frames:A.frames=some outer
 mod:Mod K mg base
 bs:∀ b o,base.get? b=some o→s.heap.get? b=some o∧H b=none
 bsz:base.objs.size≤s.heap.objs.size
 funs:s.heap.FunFrames base outer
 frf:∀ b∈frs outer,H b=none
 hok:HOk P w H s.heap
 bare:AllBare s.gens
def CE (outer:List Env) (P:Program) (w:World) (H:Hp) (s:Shared) (Q:VK) (u:Value) (s':Shared):Prop:=
 ∃ v H',s'.os=s.os∧AllBare s'.gens∧Un (frs outer) [] H H' s.heap s'.heap∧HOk P w H' s'.heap∧RelV v u∧Q v H'
def CR (CX:CXT) (outer:List Env) (P:Program) (w:World) (H:Hp) (s:Shared) (Q:VK) (E:XK) (r:Result) (s':Shared):Prop:=
 match r with
 | .ok (.ret u)=>CE outer P w H s Q u s'
 | .ok _=>False
 | .error e=>CX outer H s E e s'
structure FnOk (P:Program) (w:World) (K:PySem.W.Frag) (mg:Str→Option Value) (base:Heap) (CX:CXT) (k:Nat) (f:Addr) (fd:FuncData) (ps:List Str) (sp:Sp):Prop where
 len:∀ vs H Q E,sp vs H Q E→vs.length=ps.length
 run:∀ (A:Around) (outer:List Env) (s:Shared) (H:Hp) (args:Args) (us:List Value) (vs:List V) (Q:VK) (E:XK),Room k A→Env0 P w K mg base A outer s H→BindsTo s fd args (ps.zip us)→Vals vs us→sp vs H Q E→
  codeAny (model P w) A (.call (.ref f) args) (CR CX outer P w H s Q E) s
theorem Env0.make {P:Program} {w:World} {K:PySem.W.Frag} {mg:Str→Option Value} {base:Heap} {A:Around} {outer:List Env} {s:Shared} {H:Hp} (e:Env0 P w K mg base A outer s H) (C:Addr) (us:List Value) (kw:List (Str×Value)) :
  Env0 P w K mg base (A.under (.builtin "type.__call__" ⟨.ref C::us,kw⟩)) outer s H:=⟨by first | exact e.frames | (simpa [Around.under,Code.envs,Code.isFrame,pushEnvs] using e.frames),e.mod,e.bs,e.bsz,e.funs,e.frf,e.hok,e.bare⟩
section
variable {X:Cx} {pins:List (Addr×Obj)} {σ:St} {H:Hp} {s s':Shared}
theorem Inv.env0 (I:Inv X pins σ H s):Env0 X.prog X.w X.K X.mg X.base X.A X.stack s H:=
 ⟨I.ok.frames,I.ok.mod,I.bs,Nat.le_trans I.ok.bsz I.sz,I.stack,I.stkFree,I.hok,I.bare⟩
theorem Inv.after {Q:VK} {u:Value} (I:Inv X pins σ H s) (h:CE X.stack X.prog X.w H s Q u s'):EP X pins σ Q u s':=by
 obtain⟨v,H',os,bare,un,hok,r,q⟩:=h
 obtain⟨hh,g,d,t,os'⟩:=s'
 obtain rfl:os'=s.os:=os
 exact⟨v,H',I.call (h':=hh) (g':=g) (d':=d) (t':=t) (ch:=[]) un hok bare (fun b z=>absurd z (by simp)),r,q⟩
end
def tCall (sp:Sp) (dvs:List V) (E:XK) (t:TA):TE:=fun σ H Q=>t σ H fun vs H1=>sp (vs++dvs) H1 Q E
def tMeth (C:Addr) (m:Str) (sp:Sp) (dvs:List V) (E:XK) (ta:TE) (t:TA):TE:=fun σ H Q=>ta σ H fun x H1=>∃ a dx fs,x=.ref a∧H1 a=some (.ins C dx fs)∧fs.lookup m=none∧
 t σ H1 fun vs H2=>sp (x::(vs++dvs)) H2 Q E
def tMake (C:Addr) (sp:Sp) (dvs:List V) (E:XK) (t:TA):TE:=fun σ H Q=>t σ H fun vs H1=>∀ x dx,H1 x=none→H1 dx=none→dx≠x→
 sp (.ref x::(vs++dvs)) (upd (upd H1 dx (.own x)) x (.ins C dx [])) (fun v H2=>v=.non∧Q (.ref x) H2) E
def Binds (K:PySem.W.Frag) (fd:FuncData) (ps:List Str) (ds:List Value):Prop:=
 ∀ (s:Shared) (us:List Value),K.In s.heap→(us++ds).length=ps.length→BindsTo s fd ⟨us,[]⟩ (ps.zip (us++ds))
theorem Binds.all {K:PySem.W.Frag} {fd:FuncData} {ps:List Str} (h:∀ us:List Value,us.length=ps.length→bindArgs fd ⟨us,[]⟩=pure (ps.zip us)):Binds K fd ps []:=fun s us _ hl=>by
 rw [List.append_nil] at hl ⊢
 exact .of_eq (h us hl)
def Passes (CX:CXT) (X:Cx) (E:XK):Prop:=∀ (pins:List (Addr×Obj)) (σ:St) (H:Hp) (s:Shared) (e:Value) (s':Shared),Inv X pins σ H s→CX X.stack H s E e s'→X.xe e s'
section
variable {X:Cx} {CX:CXT} {k:Nat} {f C:Addr} {fd:FuncData} {ps:List Str} {sp:Sp} {dvs:List V} {ds:List Value} {E:XK} {x m:Str} {p pos apos:Pos} {e o:Expr} {es:List Expr} {ta:TE} {t:TA}
theorem run_fn {pins:List (Addr×Obj)} {σ:St} {H:Hp} {s:Shared} {Q:VK} {us:List Value} {vs:List V} (F:FnOk X.prog X.w X.K X.mg X.base CX k f fd ps sp) (hr:Room k X.A) (hb:Binds X.K fd ps ds) (hd:Vals dvs ds) (hx:Passes CX X E)
  (I:Inv X pins σ H s) (r:Vals vs us) (h:sp (vs++dvs) H Q E):wpAny (model X.prog X.w) X.A (call (.ref f) us) (EP X pins σ Q) X.xe s:=by
 have r2:Vals (vs++dvs) (us++ds):=r.append hd
 have hl:(us++ds).length=ps.length:=by rw [← r2.length]; exact F.len _ _ _ _ h
 refine wpAny_call (codeAny_mono (F.run X.A X.stack s H ⟨us,[]⟩ (us++ds) (vs++dvs) Q E hr I.env0 (hb s us I.kIn hl) r2 h) fun r s' hq=>?_)
 cases r with
 | error e=>exact hx pins σ H s e s' I hq
 | ok fl=>
  cases fl with
  | ret u=>exact I.after hq
  | next=>exact False.elim hq
  | brk=>exact False.elim hq
  | cont=>exact False.elim hq
theorem pe_call (F:FnOk X.prog X.w X.K X.mg X.base CX k f fd ps sp) (hr:Room k X.A) (hg:Gl X x) (hm:X.mg x=some (.ref f)) (hk:PySem.W.keepIn X.K (.ref f)=true) (hb:Binds X.K fd ps ds) (hd:Vals dvs ds) (hx:Passes CX X E)
  (ha:PA X (e::es) t) (hdb:(x==("__debug__":Str))=false:=by decide) (he:starEach (e::es) X.env=(false,eval e X.env)::starEach es X.env:=by rfl) (hpl:(backTo pos (starEach es X.env)).any (·.1)=false:=by rfl) :
  PE X (.Call (.Name x p) (e::es) [] pos) (tCall sp dvs E t):=by
 intro pins s σ H Q I h
 refine wpAny_Call_Name_kw (ld_glob I hg hm ?_ hdb)
 refine PySem.W.callWith_K (h₀:=X.base) I.ok.mod.kin hk (thn (ha pos pins s σ H _ I h) fun us s1 ⟨vs,H1,I1,r,q⟩=>⟨I1.kIn,?_⟩) he hpl
 exact run_fn F hr hb hd hx I1 r q
theorem pe_meth0 {pl:Sem Bool} (he:PE X o ta) (c:Cls X.K C) (hm:Meth X.K C m f) (F:FnOk X.prog X.w X.K X.mg X.base CX k f fd ps sp) (hr:Room k X.A) (hb:Binds X.K fd ps ds) (hd:Vals dvs ds) (hx:Passes CX X E)
  (ht:eval (.Call (.Attribute o m apos) [] [] pos) X.env=(do
   let ov ← eval o X.env
   standAt apos.atName
   let (f,first) ← holding [ov] (getMethod ov m pl)
   callWith pos f first (backTo pos (starEach [] X.env)) (backToKw pos (keywordEach [] X.env))):=by rfl) :
  PE X (.Call (.Attribute o m apos) [] [] pos) (tMeth C m sp dvs E ta tNil):=by
 intro pins s σ H Q I h
 refine PySem.W.methodCall_KW (pl:=pl) (thn (he pins s σ H _ I h) fun u s1 ⟨x,H1,I1,rx,a,dx,fs,ex,ea,l,q⟩=>?_) ht
 subst ex
 obtain rfl:u=Value.ref a:=rx
 refine getmeth_ok I1 ea c hm l ?_
 exact PySem.W.callWith_K0 (first:=[.ref a]) I1.kIn hm.kp (run_fn (us:=[.ref a]) (vs:=[.ref a]) F hr hb hd hx I1 (.cons rfl .nil) q)
structure Mk (K:PySem.W.Frag) (C f:Addr):Prop where
 makes:PySem.W.makesIn K C=true
 init:PySem.W.findIn K (.ref C) "__init__"=some (some (.ref f))
 fn:PySem.W.isFn K (.ref f)=true
 kp:PySem.W.keepIn K (.ref C)=true
theorem run_make {pins:List (Addr×Obj)} {σ:St} {H:Hp} {s:Shared} {Q:VK} {us:List Value} {vs:List V} (M:Mk X.K C f) (F:FnOk X.prog X.w X.K X.mg X.base CX k f fd ps sp) (hr:Room (k+1) X.A) (hb:Binds X.K fd ps ds) (hd:Vals dvs ds)
  (hx:Passes CX X E) (I:Inv X pins σ H s) (r:Vals vs us)
  (h:∀ x dx,H x=none→H dx=none→dx≠x→sp (.ref x::(vs++dvs)) (upd (upd H dx (.own x)) x (.ins C dx [])) (fun v H2=>v=.non∧Q (.ref x) H2) E) :
  wpAny (model X.prog X.w) X.A (call (.ref C) us) (EP X pins σ Q) X.xe s:=by
 have hq:=h (s.heap.objs.size+1) s.heap.objs.size (I.hok.fresh (Nat.le_succ _)) (I.hok.fresh (Nat.le_refl _)) (Nat.ne_of_lt (Nat.lt_succ_self _))
 have I2:=Inv.made (C:=C) I
 have r2:Vals (V.ref (s.heap.objs.size+1)::(vs++dvs)) (Value.ref (s.heap.objs.size+1)::(us++ds)):=.cons rfl (r.append hd)
 have hl:(Value.ref (s.heap.objs.size+1)::us++ds).length=ps.length:=by
  have e:=r2.length
  rw [F.len _ _ _ _ hq] at e
  exact e.symm
 refine wpAny_call (make_map (f:=f) I.kIn M.makes M.init (beq_iff_eq.mp M.fn) (codeAny_mono (F.run _ X.stack _ _ ⟨Value.ref (s.heap.objs.size+1)::us,[]⟩ (Value.ref (s.heap.objs.size+1)::(us++ds)) _ _ E (hr.make C us [])
  (I2.env0.make C us []) (hb _ (Value.ref (s.heap.objs.size+1)::us) I2.kIn hl) r2 hq) fun r s' hq'=>?_))
 cases r with
 | error e=>exact hx pins σ _ _ e s' I2 hq'
 | ok fl=>
  cases fl with
  | ret u=>
   obtain⟨v,H',I3,rv,ev,q3⟩:=I2.after hq'
   subst ev
   exact⟨rv,⟨V.ref (s.heap.objs.size+1),H',I3,rfl,q3⟩⟩
  | next=>exact False.elim hq'
  | brk=>exact False.elim hq'
  | cont=>exact False.elim hq'
theorem pe_make (M:Mk X.K C f) (F:FnOk X.prog X.w X.K X.mg X.base CX k f fd ps sp) (hr:Room (k+1) X.A) (hg:Gl X x) (hm:X.mg x=some (.ref C)) (hb:Binds X.K fd ps ds) (hd:Vals dvs ds) (hx:Passes CX X E)
  (ha:PA X (e::es) t) (hdb:(x==("__debug__":Str))=false:=by decide) (he:starEach (e::es) X.env=(false,eval e X.env)::starEach es X.env:=by rfl) (hpl:(backTo pos (starEach es X.env)).any (·.1)=false:=by rfl) :
  PE X (.Call (.Name x p) (e::es) [] pos) (tMake C sp dvs E t):=by
 intro pins s σ H Q I h
 refine wpAny_Call_Name_kw (ld_glob I hg hm ?_ hdb)
 refine PySem.W.callWith_K (h₀:=X.base) I.ok.mod.kin M.kp (thn (ha pos pins s σ H _ I h) fun us s1 ⟨vs,H1,I1,r,q⟩=>⟨I1.kIn,?_⟩) he hpl
 exact run_make M F hr hb hd hx I1 r q
end
section
variable {X:Cx} {CX:CXT} {k:Nat} {f C:Addr} {fd:FuncData} {ps ks:List Str} {sp:Sp} {E:XK} {x m:Str} {p pos apos kpos:Pos} {e o:Expr} {es:List Expr} {kws:List Keyword} {te ta:TE} {t tk:TA} {nm:Option Str}
structure KBinds (K:PySem.W.Frag) (fd:FuncData) (ps ks:List Str) (g:List Value→List Value→List Value) (gV:List V→List V→List V):Prop where
 to:∀ (s:Shared) (us ws:List Value),K.In s.heap→(g us ws).length=ps.length→BindsTo s fd ⟨us,ks.zip ws⟩ (ps.zip (g us ws))
 rel:∀ {vs:List V} {us:List Value} {zs:List V} {ws:List Value},Vals vs us→Vals zs ws→Vals (gV vs zs) (g us ws)
variable {g:List Value→List Value→List Value} {gV:List V→List V→List V}
end
structure FnScope (N P:List Str) (sc:Scope):Prop where
 kind:sc.kind=.function
 co:sc.isCoroutine=false
 gen:sc.isGenerator=false
 nd:N.Nodup
 pre:N.take P.length=P
 par:∀ x∈P,sc.names.lookup x=some .local∨sc.names.lookup x=some .cell
 nofree:∀ y∈sc.names,y.2≠.free
theorem bindL_out {kindOf:Str→Option NameKind} {x:Str}:∀ {binds:List (Str×Value)} {m:Str→Option Value},(∀ v,(x,v)∉binds)→bindL kindOf binds m x=m x
 | [],_,_=>rfl
 | (n,v)::r,m,h=>by
  unfold bindL
  rw [bindL_out fun w hw=>h w (List.mem_cons_of_mem _ hw)]
  split
  ·have : x≠n:=by rintro rfl; exact h v List.mem_cons_self
   simp [this]
  ·rfl
theorem bindC_out {kindOf:Str→Option NameKind} {x:Str}:∀ {binds:List (Str×Value)} {m:Str→Option Value},(∀ v,(x,v)∉binds)→bindC kindOf binds m x=m x
 | [],_,_=>rfl
 | (n,v)::r,m,h=>by
  unfold bindC
  rw [bindC_out fun w hw=>h w (List.mem_cons_of_mem _ hw)]
  split
  ·rfl
  ·have : x≠n:=by rintro rfl; exact h v List.mem_cons_self
   simp [this]
theorem bindL_get {kindOf:Str→Option NameKind} {x:Str} {v:Value}:∀ {P:List Str} {vs:List Value} {i:Nat} {m:Str→Option Value},P.Nodup→P[i]? = some x→vs[i]? = some v→kindOf x=some .local→
  bindL kindOf (P.zip vs) m x=some v
 | [],_,_,_,_,h,_,_=>by simp at h
 | _::_,[],_,_,_,_,h,_=>by simp at h
 | p::P,w::vs,0,m,nd,h1,h2,hk=>by
  simp at h1 h2; subst h1; subst h2
  show bindL kindOf ((p,w)::P.zip vs) m p=_
  unfold bindL
  rw [bindL_out fun v hv=>(List.nodup_cons.mp nd).1 (List.of_mem_zip hv).1,if_pos hk]
  simp
 | p::P,w::vs,i+1,m,nd,h1,h2,hk=>by
  show bindL kindOf ((p,w)::P.zip vs) m x=_
  unfold bindL
  exact bindL_get (i:=i) (List.nodup_cons.mp nd).2 (by simpa using h1) (by simpa using h2) hk
theorem bindC_get {kindOf:Str→Option NameKind} {x:Str} {v:Value}:∀ {P:List Str} {vs:List Value} {i:Nat} {m:Str→Option Value},P.Nodup→P[i]? = some x→vs[i]? = some v→kindOf x≠some .local→
  bindC kindOf (P.zip vs) m x=some v
 | [],_,_,_,_,h,_,_=>by simp at h
 | _::_,[],_,_,_,_,h,_=>by simp at h
 | p::P,w::vs,0,m,nd,h1,h2,hk=>by
  simp at h1 h2; subst h1; subst h2
  show bindC kindOf ((p,w)::P.zip vs) m p=_
  unfold bindC
  rw [bindC_out fun v hv=>(List.nodup_cons.mp nd).1 (List.of_mem_zip hv).1,if_neg hk]
  simp
 | p::P,w::vs,i+1,m,nd,h1,h2,hk=>by
  show bindC kindOf ((p,w)::P.zip vs) m x=_
  unfold bindC
  exact bindC_get (i:=i) (List.nodup_cons.mp nd).2 (by simpa using h1) (by simpa using h2) hk
def start (N:List Str) (vs:List V):St:=vs.map some++List.replicate (N.length-vs.length) none
def cxOf (CX:CXT) (P:Program) (w:World) (K:PySem.W.Frag) (mg:Str→Option Value) (base:Heap) (N:List Str) (qual:Str) (scope:Scope) (f:Addr) (cd:Value) (A:Around) (outer:List Env) (s:Shared) (H:Hp) (E:XK):Cx where
 prog:=P
 w:=w
 K:=K
 mg:=mg
 base:=base
 A:=A.deeper (envOfC qual scope s.heap.objs.size f cd)
 N:=N
 s₀:=s
 H₀:=H
 env:=envOfC qual scope s.heap.objs.size f cd
 outer:=outer
 stack:=envOfC qual scope s.heap.objs.size f cd::outer
 ex:=[]
 calm:=true
 fn:=fun _=>true
 pn:=[]
 xe:=fun e s'=>wpAny (model P w) (A.deeper (envOfC qual scope s.heap.objs.size f cd)) (leaving (envOfC qual scope s.heap.objs.size f cd) e) (fun _ s''=>CX outer H s E e s'') (fun e' s''=>CX outer H s E e' s'') s'
theorem cell_has {sc:Scope} {n:Nat} {x:Str} (h:sc.names.lookup x=some .cell):∃ c,(cellsFrom n sc.names []).lookup x=some c:=by
 have q:=PySem.W.cellsFrom_some sc.names n [] (.inl h)
 exact Option.isSome_iff_exists.mp q
theorem inv_start {CX:CXT} {P:Program} {w:World} {K:PySem.W.Frag} {mg:Str→Option Value} {base:Heap} {N ps:List Str} {qual:Str} {scope:Scope} {f:Addr} {cd:Value} {A:Around} {outer:List Env} {s s1:Shared} {H:Hp} {E:XK} {us:List Value} {vs:List V}
  (S:FnScope N ps scope) (hd:A.handled=none) (e0:Env0 P w K mg base A outer s H) (hl:vs.length=ps.length) (r:Vals vs us)
  (x:InCallC s s.heap.objs.size (bindL (envOfC qual scope s.heap.objs.size f cd).kindOf (ps.zip us) fun _=>none) (cellsFrom (s.heap.objs.size+1) scope.names []) (bindC (envOfC qual scope s.heap.objs.size f cd).kindOf (ps.zip us) fun _=>none) s1) :
  Inv (cxOf CX P w K mg base N qual scope f cd A outer s H E) [] (start N vs) H s1:=by
 have hpl:ps.length≤N.length:=by have:=congrArg List.length S.pre; rw [List.length_take] at this; omega
 obtain⟨h1,tk,rfl,hk⟩:=x.done
 have noA:∀ b:Addr,b∉(cxOf CX P w K mg base N qual scope f cd A outer s H E).ex:=fun b z=>absurd (show b∈([]:List Addr) from z) (by simp)
 refine⟨⟨e0.mod,S.kind,rfl,rfl,Nat.le_refl _,fun y z c h1 h2=>?_,fun y hy=>?_,fun y c _ h=>?_,fun _=>hd,Around.frames_deeper e0.frames,.inr ⟨rfl,rfl⟩,fun b z=>absurd z (noA b),e0.bs,e0.bsz,fun b _ _=>noA b,fun b z=>absurd z (noA b),e0.funs,e0.frf⟩,
  rfl,e0.bare,Un.kept hk,⟨_,x.toInCall.ns,fun i y v h1 h2 h3=>?_⟩,fun y c h=>⟨_,x.cell y c h⟩,e0.hok.fresh (Nat.le_refl _),fun y c h=>?_,fun p hp=>absurd (show p∈([]:List (Addr×Obj)) from hp) (by simp),e0.hok.kept hk,?_⟩
 ·exact name_of_addr x.apart (PySem.mem_of_lookup h1) (PySem.mem_of_lookup h2)
 ·have hy:scope.names.lookup y=some .cell∨scope.names.lookup y=some .free:=hy
  rcases hy with hy | hy
  ·exact cell_has hy
  ·exact absurd rfl (S.nofree _ (PySem.mem_of_lookup hy))
 ·exact Nat.le_of_lt (x.above y c (PySem.mem_of_lookup h))
 ·have hi:i<vs.length:=by
   unfold start at h2
   by_cases hi:i<vs.length
   ·exact hi
   ·rw [List.getElem?_append_right (by simpa using hi)] at h2
    rw [List.getElem?_replicate] at h2
    split at h2 <;> cases h2
  have ha:vs[i]? = some v:=by
   unfold start at h2
   rw [List.getElem?_append_left (by simpa using hi),List.getElem?_map] at h2
   cases e:vs[i]? with
   | none=>rw [e] at h2; cases h2
   | some a=>rw [e] at h2; cases h2; rfl
  obtain⟨u,hu,rv⟩:=r.get ha
  have hp:ps[i]? = some y:=by
   rw [← S.pre,List.getElem?_take_of_lt (by omega)]; exact h1
  have ndP:ps.Nodup:=by rw [← S.pre]; exact S.nd.sublist (List.take_sublist _ _)
  refine⟨u,rv,?_⟩
  rcases S.par y (List.mem_of_getElem? hp) with k | k
  ·exact .inl ⟨k,bindL_get ndP hp hu k⟩
  ·obtain⟨c,e⟩:=cell_has (n:=s.heap.objs.size+1) k
   refine .inr ⟨.inl k,c,e,?_⟩
   have q:=x.cell y c e
   rw [bindC_get ndP hp hu (by show scope.names.lookup y≠_; rw [k]; decide)] at q
   exact q
 ·exact e0.hok.fresh (Nat.le_of_lt (x.above y c (PySem.mem_of_lookup h)))
 ·unfold start
  show _=N.length
  rw [List.length_append,List.length_map,List.length_replicate]
  omega
theorem fn_of {CX:CXT} {P:Program} {w:World} {K:PySem.W.Frag} {mg:Str→Option Value} {base:Heap} {k:Nat} {f:Addr} {name qual:Str} {params:Arguments} {body:List Stmt} {scope:Scope} {dV kV doc pm cdv ct oc:Value} {an od:Option Addr}
  {osl:Array (Option Value)} {N ps:List Str} {sp:Sp} (lk:K.lookup f=some ⟨oc,od,.func (PySem.W.fnOf name qual params body scope dV kV doc pm an cdv ct),osl⟩) (hcd:PySem.W.codeIn K cdv qual=true) (S:FnScope N ps scope)
  (len:∀ vs H Q E,sp vs H Q E→vs.length=ps.length)
  (hbody:∀ (A:Around) (outer:List Env) (s:Shared) (H:Hp) (vs:List V) (Q:VK) (E:XK),Room k (A.deeper (envOfC qual scope s.heap.objs.size f cdv))→sp vs H Q E→
   ∃ t,PSs (cxOf CX P w K mg base N qual scope f cdv A outer s H E) body t∧t {nx:=fun _ H'=>Q .non H',rt:=Q} (start N vs) H) :
  FnOk P w K mg base CX (k+1) f (PySem.W.fnOf name qual params body scope dV kV doc pm an cdv ct) ps sp:=by
 refine⟨len,fun A outer s H args us vs Q E hr e0 hb r hsp=>?_⟩
 have hl:=len _ _ _ _ hsp
 have KX:K.In s.heap:=e0.mod.kin.keeps fun b o e=>(e0.bs b o e).1
 have lim:s.heap.NoLimit:=e0.mod.nolimit.keeps fun b o e=>(e0.bs b o e).1
 have hkind:∀ y∈ps.zip us,scope.names.lookup y.1=some .local∨(scope.names.lookup y.1=some .cell∧((cellsFrom (s.heap.objs.size+1) scope.names []).lookup y.1).isSome=true):=fun ⟨n,v⟩ hy=>by
  rcases S.par n (List.of_mem_zip hy).1 with q | q
  ·exact .inl q
  ·exact .inr ⟨q,PySem.W.cellsFrom_some _ _ _ (.inl q)⟩
 refine codeAny_call_function hr.depth (KX _ _ lk) rfl S.co S.gen rfl (PySem.W.codeRec_of KX hcd) (hb _ _ _ _ ?_)
 refine wpAny_newFunctionEnv_cells S.kind hkind fun env he s1 x=>?_
 subst he
 refine⟨lim.keeps x.toInCall.keep,codeAny_func ?_⟩
 obtain⟨t,ht,hq⟩:=hbody A outer s H vs Q E (hr.deeper _) hsp
 have I:Inv (cxOf CX P w K mg base N qual scope f cdv A outer s H E) [] (start N vs) H s1:=inv_start S hr.hd e0 hl r x
 refine wpAny_mono (ht [] s1 (start N vs) H _ I hq) (fun fl s' hs=>?_) fun e s' hs=>hs
 have fin:∀ {σ':St} {H':Hp} {v:V} {u:Value},Inv (cxOf CX P w K mg base N qual scope f cdv A outer s H E) [] σ' H' s'→RelV v u→Q v H'→CE outer P w H s Q u s':=
  fun {σ' H' v u} J rv q=>⟨v,H',J.os,J.bare,J.base,J.hok,rv,q⟩
 cases fl with
 | ret u=>
  obtain⟨v,σ',H',J,rv,q⟩:=hs
  exact fin J rv q
 | next=>
  obtain⟨σ',H',J,q⟩:=hs
  exact fin (v:=V.non) (u:=Value.none) J rfl q
 | brk=>
  obtain⟨_,_,_,q⟩:=hs
  exact False.elim q
 | cont=>
  obtain⟨_,_,_,q⟩:=hs
  exact False.elim q
section
variable {X:Cx} {x:Str} {p pos:Pos} {e:Expr} {es:List Expr} {t:TA} {id T:String} {r:List V→Hp→VK→Prop}
def tCB (r:List V→Hp→VK→Prop) (t:TA):TE:=fun σ H Q=>t σ H fun vs H1=>r vs H1 Q
theorem pe_callB (hc:CallR X (.builtin id) r) (hg:Gl X x) (hm:X.mg x=none) (hv:bootBuiltins x=some (.builtin id)) (ha:PA X (e::es) t) (hn:x≠"__name__":=by decide) (hdb:(x==("__debug__":Str))=false:=by decide)
  (he:starEach (e::es) X.env=(false,eval e X.env)::starEach es X.env:=by rfl) (hpl:(backTo pos (starEach es X.env)).any (·.1)=false:=by rfl):PE X (.Call (.Name x p) (e::es) [] pos) (tCB r t):=by
 intro pins s σ H Q I h
 refine wpAny_Call_Name_kw (ld_blt I hg hm hv ?_ hn hdb)
 exact PyProof.Rows.callWith_builtin1 (thn (ha pos pins s σ H _ I h) fun us s1 ⟨vs,H1,I1,r1,q1⟩=>hc pins s1 σ H1 vs us Q I1 r1 q1) he hpl
theorem pe_callTy (hc:CallR X (.type T) r) (hg:Gl X x) (hm:X.mg x=none) (hv:bootBuiltins x=some (.type T)) (ha:PA X (e::es) t) (hn:x≠"__name__":=by decide) (hdb:(x==("__debug__":Str))=false:=by decide)
  (he:starEach (e::es) X.env=(false,eval e X.env)::starEach es X.env:=by rfl) (hpl:(backTo pos (starEach es X.env)).any (·.1)=false:=by rfl):PE X (.Call (.Name x p) (e::es) [] pos) (tCB r t):=by
 intro pins s σ H Q I h
 refine wpAny_Call_Name_kw (ld_blt I hg hm hv ?_ hn hdb)
 exact PyProof.Rows.callWith_type1 (thn (ha pos pins s σ H _ I h) fun us s1 ⟨vs,H1,I1,r1,q1⟩=>hc pins s1 σ H1 vs us Q I1 r1 q1) he hpl
end
end L2
namespace HT
open PySem PyProof.Rows
section
open PySem.SeqAt
open PySem.AutoSeq1 (wpAny_loadPart')
open PySem.MeetsSeq PySem.MeetsSeq2 PySem.MeetsSeq3
end
section
variable {prog:Program} {w:World} {A:Around} {E:Value→Shared→Prop} {s:Shared}
theorem cat_tup {t b:Addr} {vs ws:List Value} {Q:Value→Shared→Prop} (ht:IsTup s.heap t vs.toArray) (hb:IsTup s.heap b ws.toArray) (hv:vs≠[])
  (h1:ws=[]→Q (.ref t) s) (h2:ws≠[]→Q (.ref s.heap.objs.size) {s with heap:=s.heap.push {cls:=.type "tuple",data:=.seq (vs++ws).toArray}})
  (hsz:vs.length+ws.length≤sizeLine):wpAny (model prog w) A (binaryOp .Add (.ref t) (.ref b)) Q E s:=by
 obtain⟨⟨cls,dd,data,sl⟩,ho,hc,n,hd⟩:=id ht
 obtain⟨⟨cls2,dd2,data2,sl2⟩,ho2,hc2,n2,hd2⟩:=id hb
 simp only at hc hd hc2 hd2
 subst hc hd hc2 hd2
 have e:vs.toArray++ws.toArray=(vs++ws).toArray:=by simp
 by_cases hw:ws=[]
 ·exact concat_meets ⟨_,ho,rfl⟩ ⟨_,ho2,rfl⟩ noFill_tuple_add seq_tuple_add PySem.F.slot_tuple_add PySem.F.entry_tuple_add (PySem.F.args_tuple_add_2 _ _)
   (tuple_addW1 t b vs.toArray ws.toArray n n2 dd dd2 sl sl2 (by simpa using hv) (by simp [hw])) ⟨ho,ho2,h1 hw⟩
 ·refine concat_meets ⟨_,ho,rfl⟩ ⟨_,ho2,rfl⟩ noFill_tuple_add seq_tuple_add PySem.F.slot_tuple_add PySem.F.entry_tuple_add (PySem.F.args_tuple_add_2 _ _)
   (tuple_addW2 t b vs.toArray ws.toArray n n2 dd dd2 sl sl2 (by simpa using hv) (by simpa using hw) (by rw [List.size_toArray,List.size_toArray]; exact hsz)) ⟨ho,ho2,?_⟩
  rw [e]
  exact h2 hw
def sIx (n d:Nat):Option Int→Nat
 | none=>d
 | some v=>if v<0 then (v+(n:Int)).toNat else min v.toNat n
end
end HT
namespace L2
open PySem PySem.Spec PyProof.Rows
abbrev TO:=St→Hp→(Option Int→Hp→Prop)→Prop
def PO (X:Cx) (e:Option Expr) (t:TO):Prop:=
 ∀ (pins:List (Addr×Obj)) (s:Shared) (σ:St) (H:Hp) (Q:Option Int→Hp→Prop),Inv X pins σ H s→t σ H Q→
  wpAny (model X.prog X.w) X.A (evalPart e X.env) (fun u s'=>∃ o H',Inv X pins σ H' s'∧IsPart u o∧Q o H') X.xe s
def tPart (t:TE):TO:=fun σ H Q=>t σ H fun x H1=>∃ i,x=.int i∧Q (some i) H1
section
variable {X:Cx} {e:Expr} {te:TE} {lo hi:Option Expr} {tl th:TO} {pos p2:Pos}
theorem po_some (h:PE X e te):PO X (some e) (tPart te):=by
 intro pins s σ H Q I hw
 rw [evalPart_some]
 refine thn (h pins s σ H _ I hw) fun u s1 ⟨x,H1,I1,r1,q1⟩=>?_
 obtain⟨i,rfl,q⟩:=q1
 obtain⟨t,rfl⟩:=r1
 exact⟨some i,H1,I1,.int i t,q⟩
def SlR (X:Cx) (r:V→Option Int→Option Int→Hp→VK→Prop):Prop:=
 ∀ (pins:List (Addr×Obj)) (s:Shared) (σ:St) (H:Hp) (x:V) (v vl vu:Value) (lo hi:Option Int) (sl:Addr) (Q:VK),Inv X pins σ H s→RelV x v→s.heap.IsSliceOf sl vl vu .none→IsPart vl lo→IsPart vu hi→r x lo hi H Q→
  ∃ T id,typeLookup (.type T) "__getitem__"=pure (some (.builtin id))∧s.TypeIs v T∧wpAny (model X.prog X.w) X.A (getItem v (.ref sl)) (EP X pins σ Q) X.xe s
def tSl (r:V→Option Int→Option Int→Hp→VK→Prop) (te:TE) (tl th:TO):TE:=fun σ H Q=>te σ H fun x H1=>tl σ H1 fun l H2=>th σ H2 fun u H3=>r x l u H3 Q
theorem pe_slice {r:V→Option Int→Option Int→Hp→VK→Prop} (hr:SlR X r) (he:PE X e te) (hl:PO X lo tl) (hu:PO X hi th):PE X (.Subscript e (.Slice lo hi none p2) pos) (tSl r te tl th):=by
 intro pins s σ H Q I h
 refine Subscript_ (thn (he pins s σ H _ I h) fun v s1 ⟨x,H1,I1,r1,q1⟩=>?_)
 refine wpAny_Slice (thn (hl pins s1 σ H1 _ I1 q1) fun vl s2 ⟨l,H2,I2,pl,q2⟩=>thn (hu pins s2 σ H2 _ I2 q2) fun vu s3 ⟨u,H3,I3,pu,q3⟩=>?_)
 rw [evalPart_none]
 refine wpAny_pure ?_
 have I4:Inv X pins σ H3 {s3 with heap:=s3.heap.push {cls:=.type "slice",data:=.fields #[vl,vu,.none]}}:=I3.kept (t':=s3.toks) fun b ob q=>Heap.get?_push_of_some _ q
 obtain⟨T,id,hT,ht,hg⟩:=hr pins {s3 with heap:=s3.heap.push {cls:=.type "slice",data:=.fields #[vl,vu,.none]}} σ H3 x v vl vu l u s3.heap.objs.size Q I4 r1 (Heap.IsSliceOf.new ..) pl pu q3
 show wpAny (model X.prog X.w) X.A (subscriptTail e (.Slice lo hi none p2) v (.ref s3.heap.objs.size)) (EP X pins σ Q) X.xe {s3 with heap:=s3.heap.push {cls:=.type "slice",data:=.fields #[vl,vu,.none]}}
 exact tail_any (ops:=[.ref s3.heap.objs.size,v]) ht hT hg (by with_unfolding_all rfl)
def cutV (xs:List V) (lo hi:Option Int):List V:=(xs.drop (HT.sIx xs.length 0 lo)).take (HT.sIx xs.length xs.length hi-HT.sIx xs.length 0 lo)
theorem cutV_length (xs:List V) (lo hi:Option Int):(cutV xs lo hi).length≤xs.length:=by
 unfold cutV
 rw [List.length_take,List.length_drop]
 omega
def rCatT (K:PySem.W.Frag):R2:=fun x y H Q=>∃ a b xs ys,x=.ref a∧y=.ref b∧SqT K H a xs∧SqT K H b ys∧xs≠[]∧xs.length+ys.length≤sizeLine∧
 (ys=[]→Q (.ref a) H)∧(ys≠[]→∀ p,H p=none→Q (.ref p) (upd H p (.tup (xs++ys))))
theorem Vals.nil_iff {xs:List V} {us:List Value} (r:Vals xs us):us=[]↔xs=[]:=by
 cases r with
 | nil=>simp
 | cons _ _=>simp
theorem op_catT:OpR X (binaryOp .Add) (rCatT X.K):=by
 intro pins s σ H x y v u Q I rx ry h
 obtain⟨a,b,xs,ys,rfl,rfl,ha,hb,hx,hz,q1,q2⟩:=h
 cases rx
 cases ry
 obtain⟨its,r1,p1,_⟩:=I.tuple ha
 obtain⟨its2,r2,p2,_⟩:=I.tuple hb
 refine HT.cat_tup p1 p2 (fun z=>hx (r1.nil_iff.mp z)) (fun z=>⟨.ref a,H,I,rfl,q1 (r2.nil_iff.mp z)⟩) (fun z=>?_) (by rw [← r1.length,← r2.length]; exact hz)
 refine⟨.ref s.heap.objs.size,_,I.laid (t':=s.toks) (o:=.tup (xs++ys)) (fun b ob q=>Heap.get?_push_of_some _ q) (Nat.le_refl _) ?_,rfl,q2 (fun w=>z (r2.nil_iff.mpr w)) _ (I.hok.fresh (Nat.le_refl _))⟩
 exact⟨by rw [List.length_append]; exact hz,_,r1.append r2,IsTup.new _ _⟩
end
def ixN (n:Nat) (i:Int):Option Nat:=if 0≤i then (if i<n then some i.toNat else none) else if -(n:Int)≤i then some (i+n).toNat else none
def atI {α:Type} (xs:List α) (i:Int):Option α:=(ixN xs.length i).bind fun j=>xs[j]?
theorem ixN_seq {n:Nat} {i:Int} {j:Nat} (h:ixN n i=some j):seqIndex? i n=some j∧j<n∧-(n:Int)≤i∧i<n:=by
 unfold ixN at h
 by_cases h0:0≤i
 ·rw [if_pos h0] at h
  by_cases h1:i<n
  ·rw [if_pos h1] at h
   have e:i.toNat=j:=Option.some.inj h
   exact⟨by rw [seqIndex_of h0 h1,e],by omega,by omega,h1⟩
  ·rw [if_neg h1] at h; cases h
 ·rw [if_neg h0] at h
  by_cases h1:-(n:Int)≤i
  ·rw [if_pos h1] at h
   have e:(i+n).toNat=j:=Option.some.inj h
   exact⟨by rw [seqIndex_neg (by omega) h1,e],by omega,h1,by omega⟩
  ·rw [if_neg h1] at h; cases h
theorem atI_get {α:Type} {xs:List α} {i:Int} {v:α} (h:atI xs i=some v):∃ j,seqIndex? i xs.length=some j∧xs[j]? = some v∧j<xs.length∧-(xs.length:Int)≤i∧i<xs.length:=by
 unfold atI at h
 cases e:ixN xs.length i with
 | none=>rw [e] at h; cases h
 | some j=>
  rw [e] at h
  obtain⟨h1,h2,h3,h4⟩:=ixN_seq e
  exact⟨j,h1,h,h2,h3,h4⟩
theorem atI_nat {α:Type} {xs:List α} {j:Nat} {v:α} (h:xs[j]? = some v):atI xs (j:Int)=some v:=by
 have hj:j<xs.length:=(List.getElem?_eq_some_iff.mp h).1
 have e:ixN xs.length (j:Int)=some j:=by
  unfold ixN
  rw [if_pos (by omega),if_pos (by omega)]; simp
 unfold atI; rw [e]; exact h
def PlainIx (b:Expr):Prop:=∀ o i,subscripted b false o i=operate [o,i] (getItem o i)
def IxR (X:Cx) (r:R2):Prop:=
 ∀ (value slice:Expr) (pins:List (Addr×Obj)) (s:Shared) (σ:St) (H:Hp) (x y:V) (v u:Value) (Q:VK),Inv X pins σ H s→RelV x v→RelV y u→r x y H Q→
  subscripted slice false v u=operate [v,u] (getItem v u)→wpAny (model X.prog X.w) X.A (subscriptTail value slice v u) (EP X pins σ Q) X.xe s
def MtR (X:Cx) (id:String) (r:V→List V→Hp→VK→Prop):Prop:=
 ∀ (pins:List (Addr×Obj)) (s:Shared) (σ:St) (H:Hp) (x:V) (xs:List V) (v:Value) (us:List Value) (Q:VK),Inv X pins σ H s→RelV x v→Vals xs us→r x xs H Q→
  wpAny (model X.prog X.w) X.A (call (.builtin id) (v::us)) (EP X pins σ Q) X.xe s
section
variable {X:Cx} {a b:Expr} {ta tb:TE} {pos:Pos}
theorem IxR.or {r r':R2} (h:IxR X r) (h':IxR X r'):IxR X (fun x y H Q=>r x y H Q∨r' x y H Q):=by
 intro value slice pins s σ H x y v u Q I rx ry q hs
 rcases q with q | q
 ·exact h value slice pins s σ H x y v u Q I rx ry q hs
 ·exact h' value slice pins s σ H x y v u Q I rx ry q hs
theorem pe_ix {r:R2} (hr:IxR X r) (ha:PE X a ta) (hb:PE X b tb) (hs:PlainIx b):PE X (.Subscript a b pos) (tOp r ta tb):=by
 intro pins s σ H Q I h
 exact Subscript_ (binT ha hb I h fun v u s2 x y H2 I2 rx ry q=>hr a b pins s2 σ H2 x y v u Q I2 rx ry q (hs _ _))
def rIxL (K:PySem.W.Frag):R2:=fun x y H Q=>∃ p xs i v,x=.ref p∧y=.int i∧SqL K H p xs∧atI xs i=some v∧Q v H
def rIxT (K:PySem.W.Frag):R2:=fun x y H Q=>∃ p xs i v,x=.ref p∧y=.int i∧SqT K H p xs∧atI xs i=some v∧Q v H
def rIxS:R2:=fun x y H Q=>∃ z i c,x=.str z∧y=.int i∧z.length≤sizeLine∧atI z.cps.toList i=some c∧Q (.str ⟨#[c]⟩) H
theorem ix_list:IxR X (rIxL X.K):=by
 intro value slice pins s σ H x y v u Q I rx ry h hs
 obtain⟨p,xs,i,z,rfl,rfl,hq,he,q⟩:=h
 cases rx
 obtain⟨t,rfl⟩:=ry
 obtain⟨its,r,pl,hz⟩:=I.list hq
 obtain⟨j,h1,h2,h3,h4,h5⟩:=atI_get he
 obtain⟨w,ew,rw'⟩:=r.get h2
 have hl:=r.length
 have hn:=line63
 have fin:EP X pins σ Q w s:=⟨z,H,I,rw',q⟩
 by_cases h0:0≤i
 ·have hj:i.toNat=j:=by
   rw [seqIndex_of h0 h5] at h1
   exact Option.some.inj h1
  exact item_listR pl.isList h0 (by omega) (by rw [hj]; simpa using ew) fin hs
 ·have hj:(i+(its.toArray.size:Int)).toNat=j:=by
   rw [seqIndex_neg (by omega) h4] at h1
   rw [List.size_toArray,← hl]
   exact Option.some.inj h1
  exact subscriptTail_builtinR (x:=w) pl.isList.typeIs slot_list_getitem.lookup
   (wpAny_getItem_list_neg (Q:=fun r s'=>r=w∧EP X pins σ Q r s') pl.isList (by omega) (by rw [List.size_toArray] <;> omega) (by omega) (by rw [hj]; simpa using ew) ⟨rfl,fin⟩) hs
theorem ix_tup:IxR X (rIxT X.K):=by
 intro value slice pins s σ H x y v u Q I rx ry h hs
 obtain⟨p,xs,i,z,rfl,rfl,hq,he,q⟩:=h
 cases rx
 obtain⟨t,rfl⟩:=ry
 obtain⟨its,r,pl,hz⟩:=I.tuple hq
 obtain⟨j,h1,h2,h3,h4,h5⟩:=atI_get he
 obtain⟨w,ew,rw'⟩:=r.get h2
 have hl:=r.length
 have hn:=line63
 have fin:EP X pins σ Q w s:=⟨z,H,I,rw',q⟩
 exact subscriptTail_builtinR (x:=w) pl.typeIs slot_tuple_getitem.lookup
  (getItem_tuple (j:=j) (Q:=fun r s'=>r=w∧EP X pins σ Q r s') pl (by omega) (by omega) (by rw [List.size_toArray,← hl]; exact h1) (by simpa using ew) ⟨rfl,fin⟩) hs
theorem ix_str:IxR X rIxS:=by
 intro value slice pins s σ H x y v u Q I rx ry h hs
 obtain⟨z,i,c,rfl,rfl,hz,he,q⟩:=h
 obtain⟨t,rfl⟩:=rx
 obtain⟨t',rfl⟩:=ry
 obtain⟨j,h1,h2,h3,h4,h5⟩:=atI_get he
 have hl:z.cps.toList.length=z.length:=by simp [Str.length]
 rw [hl] at h1 h4 h5
 have hn:=line63
 exact tail_any (typeIs_str s z t) slot_str_getitem.lookup (getItem_str (c:=c) (by
  have e1:decide (i < -(2 ^ 63:Int))=false:=decide_eq_false (by omega)
  have e2:decide (i≥2 ^ 63)=false:=decide_eq_false (by omega)
  rw [e1,e2,Bool.or_false]) (by rw [h1]; simpa using h2) ⟨.str ⟨#[c]⟩,H,I.tok _,⟨_,rfl⟩,q⟩) hs
def rIx (K:PySem.W.Frag):R2:=fun x y H Q=>rIxL K x y H Q∨rIxT K x y H Q∨rIxS x y H Q
theorem ix_seq:IxR X (rIx X.K):=ix_list.or (ix_tup.or ix_str)
theorem mapSeq_set (its:List Value) (n j:Nat) (u:Value):Obj.mapSeq (·.setIfInBounds j u) {cls:=.type "list",data:=.seq its.toArray n}={cls:=.type "list",data:=.seq (its.set j u).toArray n}:=by
 simp [Obj.mapSeq]
theorem Inv.lst {pins:List (Addr×Obj)} {σ:St} {H:Hp} {s:Shared} {p:Addr} {xs:List V} (I:Inv X pins σ H s) (h:H p=some (.lst xs)) :
  ∃ (its:List Value) (n:Nat),Vals xs its∧s.heap.get? p=some {cls:=.type "list",data:=.seq its.toArray n}∧xs.length≤sizeLine:=by
 obtain⟨z,its,n,r,e⟩:=I.hok p _ h
 exact⟨its,n,r,e,z⟩
theorem Inv.lstUpd {pins:List (Addr×Obj)} {σ:St} {H:Hp} {s:Shared} {p:Addr} {xs ys:List V} {its its':List Value} {n n':Nat} {f:Obj→Obj} (I:Inv X pins σ H s) (h:H p=some (.lst xs))
  (ho:s.heap.get? p=some {cls:=.type "list",data:=.seq its.toArray n}) (hf:f {cls:=.type "list",data:=.seq its.toArray n}={cls:=.type "list",data:=.seq its'.toArray n'}) (r:Vals ys its') (hz:ys.length≤sizeLine) (t:Nat) :
  Inv X pins σ (upd H p (.lst ys)) {s with heap:=s.heap.update p f,toks:=t}:=by
 have e:(s.heap.update p f).get? p=some {cls:=.type "list",data:=.seq its'.toArray n'}:=by
  rw [Heap.get?_update_self f ho (by rw [hf] <;> rfl),hf]
 refine I.write (x:=p) (e:=p) (by rw [h]; trivial) (.inl rfl) (fun b u hb q=>(Heap.get?_update_other _ _ (Ne.symm hb)).trans q) ⟨_,e⟩ ?_
 exact⟨hz,its',n',r,e⟩
def rSetL:V→V→V→Hp→(Hp→Prop)→Prop:=fun o i v H Q=>∃ p xs k j,o=.ref p∧i=.int k∧H p=some (.lst xs)∧ixN xs.length k=some j∧Q (upd H p (.lst (xs.set j v)))
theorem set_list:PSet X rSetL:=by
 intro pins s σ H o i v ov iv u Q I ro ri rv h
 obtain⟨p,xs,k,j,rfl,rfl,hp,hj,q⟩:=h
 cases ro
 obtain⟨t,rfl⟩:=ri
 obtain⟨its,n,r,ho,hz⟩:=I.lst hp
 obtain⟨h1,h2,h3,h4⟩:=ixN_seq hj
 have hl:=r.length
 have hn:=line63
 have I':Inv X pins σ (upd H p (.lst (xs.set j v))) {s with heap:=s.heap.update p (Obj.mapSeq (·.setIfInBounds j u))}:=
  I.lstUpd hp ho (mapSeq_set its n j u) (r.set rv j) (by rw [List.length_set]; exact hz) s.toks
 by_cases h0:0≤k
 ·have hk:k.toNat=j:=by
   rw [seqIndex_of h0 h4] at h1
   exact Option.some.inj h1
  exact PySem.W.ki_setAt ho h0 (by omega) (by rw [List.size_toArray,← hl]; exact h4) (by rw [hk]; exact⟨_,I',q⟩)
 ·have hk:(k+(its.toArray.size:Int)).toNat=j:=by
   rw [seqIndex_neg (by omega) h3] at h1
   rw [List.size_toArray,← hl]
   exact Option.some.inj h1
  exact PySem.W.ki_setBack ho (by omega) (by rw [List.size_toArray,← hl]; exact h3) (by omega) (by rw [hk]; exact⟨_,I',q⟩)
theorem slice_bounds (lo hi:Option Int) (n:Nat):(sliceBounds lo hi none n).1=((HT.sIx n 0 lo:Nat):Int)∧(sliceBounds lo hi none n).2.1=((HT.sIx n n hi:Nat):Int)∧(sliceBounds lo hi none n).2.2=1:=by
 refine⟨?_,?_,rfl⟩
 ·cases lo with
  | none=>simp [sliceBounds,HT.sIx]
  | some i=>
   simp only [sliceBounds,HT.sIx,Option.getD_none,show (1:Int) > 0 by decide,if_true]
   by_cases h:i<0
   ·simp only [h,if_true] <;> omega
   ·simp only [h,if_false] <;> omega
 ·cases hi with
  | none=>simp [sliceBounds,HT.sIx]
  | some i=>
   simp only [sliceBounds,HT.sIx,Option.getD_none,show (1:Int) > 0 by decide,if_true]
   by_cases h:i<0
   ·simp only [h,if_true] <;> omega
   ·simp only [h,if_false] <;> omega
theorem slicePick_cut (its:List Value) (lo hi:Option Int):slicePick its.toArray lo hi none=((its.drop (HT.sIx its.length 0 lo)).take (HT.sIx its.length its.length hi-HT.sIx its.length 0 lo)).toArray:=by
 obtain⟨h1,h2,h3⟩:=slice_bounds lo hi its.toArray.size
 unfold slicePick
 rw [h1,h2,h3]
 simp only [sliceRange_one,pick_run,List.size_toArray] <;> rfl
def rSlL (K:PySem.W.Frag):V→Option Int→Option Int→Hp→VK→Prop:=fun x lo hi H Q=>∃ a xs,x=.ref a∧SqL K H a xs∧∀ p,H p=none→Q (.ref p) (upd H p (.lst (cutV xs lo hi)))
theorem sl_list:SlR X (rSlL X.K):=by
 intro pins s σ H x v vl vu lo hi sl Q I rx hs pl pu h
 obtain⟨a,xs,rfl,hx,q⟩:=h
 cases rx
 obtain⟨its,r,ht,hz⟩:=I.list hx
 have hlen:=r.length
 refine⟨"list",_,slot_list_getitem.lookup,ht.isList.typeIs,?_⟩
 refine wpAny_getItem_list_slice ht.isList hs pl pu .none (by simp) ?_ (by rw [List.size_toArray] <;> omega)
 rw [slicePick_cut,← hlen]
 refine⟨.ref s.heap.objs.size,_,I.laid (t':=s.toks) (o:=.lst (cutV xs lo hi)) (fun b ob q=>Heap.get?_push_of_some _ q) (Nat.le_refl _) ?_,rfl,q _ (I.hok.fresh (Nat.le_refl _))⟩
 exact⟨Nat.le_trans (cutV_length xs lo hi) hz,_,0,(r.drop (HT.sIx xs.length 0 lo)).take (HT.sIx xs.length xs.length hi-HT.sIx xs.length 0 lo),Heap.get?_push_size _ rfl⟩
def flatV:V→Bool
 | .non=>true
 | .bl _=>true
 | .int _=>true
 | .str _=>true
 | _=>false
def eqV:V→V→Bool
 | .non,.non=>true
 | .bl a,.bl b=>a==b
 | .bl a,.int b=>(if a then 1 else 0)==b
 | .int a,.bl b=>a==(if b then 1 else 0)
 | .int a,.int b=>a==b
 | .str a,.str b=>a==b
 | _,_=>false
theorem eqAt_V {A:Around} {s:Shared} {y x:V} {u v:Value} (ry:RelV y u) (rx:RelV x v) (fy:flatV y=true) (fx:flatV x=true):SeqAt.EqAt A s u v (eqV y x):=by
 cases y with
 | non=>
  cases ry
  cases x with
  | non=>cases rx; exact SeqAt.EqAt.same _
  | bl b=>cases rx; exact SeqAt.EqAt.none_bool b
  | int b=>obtain⟨t,rfl⟩:=rx; exact SeqAt.EqAt.none_int b t
  | str b=>obtain⟨t,rfl⟩:=rx; exact SeqAt.EqAt.none_str b t
  | _=>exact absurd (show false=true from fx) Bool.false_ne_true
 | bl a=>
  cases ry
  cases x with
  | non=>cases rx; exact SeqAt.EqAt.bool_none a
  | bl b=>cases rx; exact SeqAt.EqAt.bool_bool a b
  | int b=>obtain⟨t,rfl⟩:=rx; exact SeqAt.EqAt.bool_int a b t
  | str b=>obtain⟨t,rfl⟩:=rx; exact SeqAt.EqAt.bool_str a b t
  | _=>exact absurd (show false=true from fx) Bool.false_ne_true
 | int a=>
  obtain⟨t',rfl⟩:=ry
  cases x with
  | non=>cases rx; exact SeqAt.EqAt.int_none a t'
  | bl b=>cases rx; exact SeqAt.EqAt.int_bool a t' b
  | int b=>obtain⟨t,rfl⟩:=rx; exact SeqAt.EqAt.int_int a t' b t
  | str b=>obtain⟨t,rfl⟩:=rx; exact SeqAt.EqAt.int_str a t' b t
  | _=>exact absurd (show false=true from fx) Bool.false_ne_true
 | str a=>
  obtain⟨t',rfl⟩:=ry
  cases x with
  | non=>cases rx; exact SeqAt.EqAt.str_none a t'
  | bl b=>cases rx; exact SeqAt.EqAt.str_bool a t' b
  | int b=>obtain⟨t,rfl⟩:=rx; exact SeqAt.EqAt.str_int a t' b t
  | str b=>obtain⟨t,rfl⟩:=rx; exact SeqAt.EqAt.str_str a t' b t
  | _=>exact absurd (show false=true from fx) Bool.false_ne_true
 | _=>exact absurd (show false=true from fy) Bool.false_ne_true
def eqU (x:V) (u:Value):Bool:=match u with
 | .none=>eqV .non x
 | .bool b=>eqV (.bl b) x
 | .int i _=>eqV (.int i) x
 | .str z _=>eqV (.str z) x
 | _=>false
theorem eqU_of {x y:V} {u:Value} (r:RelV y u) (f:flatV y=true):eqU x u=eqV y x:=by
 cases y with
 | non=>cases r; rfl
 | bl b=>cases r; rfl
 | int i=>obtain⟨t,rfl⟩:=r; rfl
 | str z=>obtain⟨t,rfl⟩:=r; rfl
 | _=>exact absurd (show false=true from f) Bool.false_ne_true
theorem any_eqU {x:V}:∀ {xs:List V} {us:List Value},Vals xs us→xs.all flatV=true→us.any (eqU x)=xs.any fun y=>eqV y x
 | _,_,.nil,_=>rfl
 | y::xs,u::us,.cons r t,f=>by
  rw [List.all_cons,Bool.and_eq_true] at f
  rw [List.any_cons,List.any_cons,eqU_of r f.1,any_eqU t f.2]
theorem mem_eqAt {A:Around} {s:Shared} {x:V} {v:Value} (rx:RelV x v) (fx:flatV x=true):∀ {xs:List V} {us:List Value},Vals xs us→xs.all flatV=true→∀ u∈us,SeqAt.EqAt A s u v (eqU x u)
 | _,_,.nil,_=>fun u hu=>by cases hu
 | y::xs,u::us,.cons r t,f=>fun u' hu=>by
  rw [List.all_cons,Bool.and_eq_true] at f
  rcases List.mem_cons.mp hu with rfl | hu
  ·rw [eqU_of r f.1]; exact eqAt_V r rx f.1 fx
  ·exact mem_eqAt rx fx t f.2 u' hu
def inV (x:V) (xs:List V):Bool:=xs.any fun y=>eqV y x
def rIn (K:PySem.W.Frag) (neg:Bool):R2:=fun x y H Q=>∃ p xs,y=.ref p∧(SqL K H p xs∨SqT K H p xs)∧flatV x=true∧xs.all flatV=true∧Q (.bl (if neg then !inV x xs else inV x xs)) H
theorem op_in_seq:OpR X (compareOp .In) (rIn X.K false):=by
 intro pins s σ H x y v u Q I rx ry h
 obtain⟨p,xs,rfl,hq,fx,fs,q⟩:=h
 cases ry
 rcases hq with hq | hq
 ·obtain⟨its,r,pl,hz⟩:=I.list hq
  refine SeqAt.in_listAt (eqU x) pl.isList (fun w hw=>mem_eqAt rx fx r fs w (by simpa using hw)) ⟨.bl _,H,I,rfl,?_⟩
  rw [show its.toArray.any (eqU x)=its.any (eqU x) by simp,any_eqU r fs]
  exact q
 ·obtain⟨its,r,pl,hz⟩:=I.tuple hq
  refine SeqAt.in_tupleAt (eqU x) pl (fun w hw=>mem_eqAt rx fx r fs w (by simpa using hw)) ⟨.bl _,H,I,rfl,?_⟩
  rw [show its.toArray.any (eqU x)=its.any (eqU x) by simp,any_eqU r fs]
  exact q
theorem op_notIn_seq:OpR X (compareOp .NotIn) (rIn X.K true):=by
 intro pins s σ H x y v u Q I rx ry h
 obtain⟨p,xs,rfl,hq,fx,fs,q⟩:=h
 cases ry
 rcases hq with hq | hq
 ·obtain⟨its,r,pl,hz⟩:=I.list hq
  refine SeqAt.notIn_listAt (eqU x) pl.isList (fun w hw=>mem_eqAt rx fx r fs w (by simpa using hw)) ⟨.bl _,H,I,rfl,?_⟩
  rw [show its.toArray.any (eqU x)=its.any (eqU x) by simp,any_eqU r fs]
  exact q
 ·obtain⟨its,r,pl,hz⟩:=I.tuple hq
  refine SeqAt.notIn_tupleAt (eqU x) pl (fun w hw=>mem_eqAt rx fx r fs w (by simpa using hw)) ⟨.bl _,H,I,rfl,?_⟩
  rw [show its.toArray.any (eqU x)=its.any (eqU x) by simp,any_eqU r fs]
  exact q
theorem call_len_seq:CallR X (.builtin "len") (fun xs H Q=>∃ p ys,xs=[.ref p]∧(SqL X.K H p ys∨SqT X.K H p ys)∧Q (.int ys.length) H):=by
 intro pins s σ H xs us Q I r h
 obtain⟨p,ys,rfl,hq,q⟩:=h
 obtain⟨u,rfl,rx⟩:=vals1 r
 cases rx
 have hn:=line63
 rcases hq with hq | hq
 ·obtain⟨its,r',pl,hz⟩:=I.list hq
  have hlen:=r'.length
  exact Calls.call_len_list pl.isList (by simp only [List.size_toArray] <;> omega) ⟨.int ys.length,H,I.tok _,⟨s.toks+1,by rw [List.size_toArray,hlen]⟩,q⟩
 ·obtain⟨its,r',pl,hz⟩:=I.tuple hq
  have hlen:=r'.length
  exact len_tuple pl (by simp only [List.size_toArray] <;> omega) ⟨.int ys.length,H,I.tok _,⟨s.toks+1,by rw [List.size_toArray,hlen]⟩,q⟩
theorem call_len_str:CallR X (.builtin "len") (fun xs H Q=>∃ z,xs=[.str z]∧z.length≤sizeLine∧Q (.int z.length) H):=by
 intro pins s σ H xs us Q I r h
 obtain⟨z,rfl,hz,q⟩:=h
 obtain⟨u,rfl,t,rfl⟩:=vals1 r
 have hn:=line63
 exact len_str (by omega) ⟨.int z.length,H,I.tok _,⟨_,rfl⟩,q⟩
theorem call_list_of:CallR X (.type "list") (fun xs H Q=>∃ p ys,xs=[.ref p]∧(SqL X.K H p ys∨SqT X.K H p ys)∧∀ l,H l=none→Q (.ref l) (upd H l (.lst ys))):=by
 intro pins s σ H xs us Q I r h
 obtain⟨p,ys,rfl,hq,q⟩:=h
 obtain⟨u,rfl,rx⟩:=vals1 r
 cases rx
 have fin:∀ (its:List Value),Vals ys its→ys.length≤sizeLine→∀ (h':Heap) (c':Nat),(∀ b o',s.heap.get? b=some o'→h'.get? b=some o')→
   h'.get? s.heap.objs.size=some {cls:=.type "list",dict:=none,data:=.seq its.toArray c',slots:=#[]}→EP X pins σ Q (.ref s.heap.objs.size) {s with heap:=h'}:=fun its r' hz h' c' kp e=>
  ⟨.ref s.heap.objs.size,_,I.laid (t':=s.toks) kp (Nat.le_refl _) (show ObjOk X.prog X.w _ h' _ (.lst ys) from ⟨hz,its,c',r',e⟩),rfl,q _ (I.hok.fresh (Nat.le_refl _))⟩
 rcases hq with hq | hq
 ·obtain⟨its,r',pl,hz⟩:=I.list hq
  have hlen:=r'.length
  obtain⟨o,ho,hc,n,hd⟩:=pl.isList
  exact call_list_seq p (.inl rfl) ho hc hd (fun h' c' kp e=>fin its r' hz h' c' kp e) (by simp only [List.size_toArray] <;> omega)
 ·obtain⟨its,r',pl,hz⟩:=I.tuple hq
  have hlen:=r'.length
  obtain⟨o,ho,hc,n,hd⟩:=pl
  exact call_list_seq p (.inr rfl) ho hc hd (fun h' c' kp e=>fin its r' hz h' c' kp e) (by simp only [List.size_toArray] <;> omega)
theorem call_tuple_of:CallR X (.type "tuple") (fun xs H Q=>∃ p ys,xs=[.ref p]∧((SqL X.K H p ys∧∀ l,H l=none→Q (.ref l) (upd H l (.tup ys)))∨(SqT X.K H p ys∧Q (.ref p) H))):=by
 intro pins s σ H xs us Q I r h
 obtain⟨p,ys,rfl,h⟩:=h
 obtain⟨u,rfl,rx⟩:=vals1 r
 cases rx
 rcases h with ⟨hq,q⟩ | ⟨hq,q⟩
 ·obtain⟨its,r',pl,hz⟩:=I.list hq
  have hlen:=r'.length
  refine call_tuple_list pl.isList (fun h' kp=>?_) (by simp only [List.size_toArray] <;> omega)
  have I1:Inv X pins σ H {s with heap:=h'}:=I.kept (t':=s.toks) kp
  have I2:Inv X pins σ (upd H h'.objs.size (.tup ys)) {s with heap:=h'.push {cls:=.type "tuple",data:=.seq its.toArray}}:=
   I1.laid (t':=s.toks) (fun b o e=>Heap.get?_push_of_some _ e) (Nat.le_refl _) (show ObjOk X.prog X.w _ _ _ (.tup ys) from ⟨hz,its,r',IsTup.new _ _⟩)
  exact⟨.ref h'.objs.size,_,I2,rfl,q _ (I1.hok.fresh (Nat.le_refl _))⟩
 ·obtain⟨its,r',pl,hz⟩:=I.tuple hq
  exact call_tuple_same pl ⟨.ref p,H,I,rfl,q⟩
def tyV (K:PySem.W.Frag) (T:String) (x:V) (H:Hp):Prop:=match x with
 | .str _=>T="str"
 | .int _=>T="int"
 | .ref p=>(T="list"∧∃ xs,SqL K H p xs)∨(T="tuple"∧∃ o,K.lookup p=some o∧o.cls=.type "tuple"∧o.dict=none)∨
   (T="dict"∧((∃ kvs,H p=some (.dK kvs))∨∃ kvs,H p=some (.dT kvs)))∨(T="set"∧∃ S n,H p=some (.set S n))
 | _=>False
theorem tyV_is {pins:List (Addr×Obj)} {σ:St} {H:Hp} {s:Shared} {T:String} {x:V} {v:Value} (I:Inv X pins σ H s) (r:RelV x v) (ty:tyV X.K T x H) :
  s.TypeIs v T∧∀ a,v=.ref a→∃ ob,s.heap.get? a=some ob∧ob.dict=none:=by
 cases x with
 | str z=>
  obtain⟨t,rfl⟩:=r
  cases (show T="str" from ty)
  exact⟨typeIs_str s z t,fun _ e=>nomatch e⟩
 | int i=>
  obtain⟨t,rfl⟩:=r
  cases (show T="int" from ty)
  exact⟨typeIs_int s i t,fun _ e=>nomatch e⟩
 | ref p=>
  cases r
  rcases ty with ⟨rfl,xs,hq⟩ | ⟨rfl,o,hk,hc,hd⟩ | ⟨rfl,hk⟩ | ⟨rfl,S,n,hk⟩
  ·obtain⟨its,_,pl,_⟩:=I.list hq
   refine⟨pl.isList.typeIs,fun a e=>?_⟩
   cases e
   obtain⟨o,n,e,c,hd,_⟩:=pl
   exact⟨o,e,hd⟩
  ·refine⟨⟨o,I.kIn p o hk,hc⟩,fun a e=>?_⟩
   cases e
   exact⟨o,I.kIn _ o hk,hd⟩
  ·have z:∃ o,s.heap.get? p=some o∧o.ExactDict:=by
    rcases hk with ⟨kvs,hk⟩ | ⟨kvs,hk⟩
    ·obtain⟨_,_,_,_,o,_,_,e,ex,_⟩:=I.hok p _ hk
     exact⟨o,e,ex⟩
    ·obtain⟨_,_,_,_,o,_,_,e,ex,_⟩:=I.hok p _ hk
     exact⟨o,e,ex⟩
   obtain⟨o,e,ex⟩:=z
   refine⟨⟨o,e,ex.1⟩,fun a e2=>?_⟩
   cases e2
   exact⟨o,e,ex.2.1⟩
  ·obtain⟨o,_,_,_,e,ex,_⟩:=I.hok p _ hk
   refine⟨⟨o,e,ex.1⟩,fun a e2=>?_⟩
   cases e2
   exact⟨o,e,ex.2.1⟩
 | _=>exact False.elim ty
def tBM0 (K:PySem.W.Frag) (T:String) (r:V→List V→Hp→VK→Prop) (to:TE):TE:=fun σ H Q=>to σ H fun x H1=>tyV K T x H1∧r x [] H1 Q
def tBM (K:PySem.W.Frag) (T:String) (r:V→List V→Hp→VK→Prop) (to:TE) (t:TA):TE:=fun σ H Q=>to σ H fun x H1=>tyV K T x H1∧t σ H1 fun xs H2=>r x xs H2 Q
variable {o e:Expr} {es:List Expr} {to:TE} {t:TA} {name:Str} {apos cpos:Pos} {T id:String} {r:V→List V→Hp→VK→Prop}
theorem pe_bm0 (pa:PlainAttrs T) (slot:Slot T name id) (hty:typeOf (.builtin id)=pure (.type "method_descriptor")) (hm:MtR X id r) (ho:PE X o to)
  (hbase:attributeBase o name X.env (eval o X.env)=eval o X.env:=by rfl) (hline:(apos.endLine==cpos.line)=true:=by rfl):PE X (.Call (.Attribute o name apos) [] [] cpos) (tBM0 X.K T r to):=by
 intro pins s σ H Q I h
 refine wpAny_Call_method0_late hbase hline (thn (ho pins s σ H _ I h) fun v s1 ⟨x,H1,I1,r1,ty,q1⟩=>?_)
 obtain⟨h1,h2⟩:=tyV_is I1 r1 ty
 exact⟨T,id,pa,slot,hty,h1,h2,Calls.callWith_builtin rfl (PySem.evalArgs_none (hm pins s1 σ H1 x [] v [] Q I1 r1 .nil q1))⟩
theorem pe_bm (pa:PlainAttrs T) (slot:Slot T name id) (hty:typeOf (.builtin id)=pure (.type "method_descriptor")) (hm:MtR X id r) (ho:PE X o to) (ha:PA X (e::es) t)
  (hbase:attributeBase o name X.env (eval o X.env)=eval o X.env:=by rfl)
  (hfew:((backTo cpos (starEach (e::es) X.env)).all (fun x=>!x.1)&&(backToKw cpos (keywordEach [] X.env)).all (fun x=>x.1.isSome)
   && decide ((e::es).length+([]:List Keyword).length+(if ([]:List Keyword).isEmpty then 0 else 1)<30))=true:=by rfl)
  (hline:(apos.endLine==cpos.line)=true:=by rfl) (hs:starEach (e::es) X.env=(false,eval e X.env)::starEach es X.env:=by rfl) (hplain:(backTo cpos (starEach es X.env)).any (·.1)=false:=by rfl) :
  PE X (.Call (.Attribute o name apos) (e::es) [] cpos) (tBM X.K T r to t):=by
 intro pins s σ H Q I h
 refine wpAny_Call_method_late hbase hfew hline rfl (thn (ho pins s σ H _ I h) fun v s1 ⟨x,H1,I1,r1,ty,q1⟩=>?_)
 obtain⟨h1,h2⟩:=tyV_is I1 r1 ty
 refine⟨T,id,pa,slot,hty,h1,h2,?_⟩
 have hA:=ha cpos pins s1 σ H1 _ I1 q1
 rw [hs] at hA ⊢
 refine Calls.callWith_builtin (by show (false||(backTo cpos (starEach es X.env)).any (·.1))=false; rw [hplain] <;> rfl) (Calls.evalArgs_plain ?_)
 exact thn hA fun us s2 ⟨vs,H2,I2,r2,q2⟩=>hm pins s2 σ H2 x vs v us Q I2 r1 r2 q2
end
def MtM (X:Cx) (id:String) (r:V→List V→Hp→VK→Prop):Prop:=
 ∀ (pins:List (Addr×Obj)) (s:Shared) (σ:St) (H:Hp) (x:V) (xs:List V) (v:Value) (us:List Value) (Q:VK),Inv X pins σ H s→RelV x v→Vals xs us→r x xs H Q→
  wpAny (model X.prog X.w) X.A (call (.builtin id) (v::us)) (EP X pins σ Q) X.xe s
theorem Vals.one:∀ {x:V} {us:List Value},Vals [x] us→∃ u,us=[u]∧RelV x u
 | _,_,.cons r .nil=>⟨_,rfl,r⟩
theorem Vals.zero:∀ {us:List Value},Vals [] us→us=[]
 | _,.nil=>rfl
theorem Vals.dropLast {xs:List V} {us:List Value} (h:Vals xs us):Vals xs.dropLast us.dropLast:=by
 induction h with
 | nil=>exact .nil
 | cons r t ih=>
  cases t with
  | nil=>exact .nil
  | cons q t'=>exact .cons r ih
theorem Vals.eraseIdx:∀ {xs:List V} {us:List Value} (i:Nat),Vals xs us→Vals (xs.eraseIdx i) (us.eraseIdx i)
 | _,_,_,.nil=>.nil
 | _,_,0,.cons _ t=>t
 | _,_,i+1,.cons r t=>.cons r (Vals.eraseIdx i t)
theorem Vals.rep {xs:List V} {us:List Value} (h:Vals xs us):∀ k:Nat,Vals (List.replicate k xs).flatten (List.replicate k us).flatten
 | 0=>.nil
 | k+1=>by
  rw [List.replicate_succ,List.replicate_succ,List.flatten_cons,List.flatten_cons]
  exact Vals.append h (Vals.rep h k)
theorem erase_last {α:Type} (l:List α):l.eraseIdx (l.length-1)=l.dropLast:=by
 induction l with
 | nil=>rfl
 | cons a r ih=>
  cases r with
  | nil=>rfl
  | cons b r=>
   have e:(a::b::r).length-1=((b::r).length-1)+1:=by
    have h1:(a::b::r).length=r.length+2:=rfl
    have h2:(b::r).length=r.length+1:=rfl
    omega
   rw [e,List.eraseIdx_cons_succ,ih]
   all_goals rfl
theorem len_erase {α:Type}:∀ (l:List α) (i:Nat),(l.eraseIdx i).length≤l.length
 | [],_=>Nat.le_refl _
 | _::_,0=>Nat.le_succ _
 | _::r,i+1=>Nat.succ_le_succ (len_erase r i)
theorem foldl_rep (its:List Value):∀ (k:Nat) (acc:List Value),
  List.foldl (fun x1 x2=>x1++x2) acc.toArray (List.replicate k its.toArray)=(acc++(List.replicate k its).flatten).toArray
 | 0,acc=>by simp
 | k+1,acc=>by
  have e:acc.toArray++its.toArray=(acc++its).toArray:=by simp
  have e2:(acc++its)++(List.replicate k its).flatten=acc++(List.replicate (k+1) its).flatten:=by
   rw [List.replicate_succ,List.flatten_cons,List.append_assoc]
  rw [← e2,← foldl_rep its k (acc++its),← e,List.replicate_succ,List.foldl_cons]
section
variable {X:Cx} {pins:List (Addr×Obj)} {σ:St} {H:Hp} {s:Shared} {l b:Addr} {xs ys zs:List V}
theorem Inv.lset {its its':List Value} {n:Nat} {f:Array Value→Array Value} {t':Nat} (I:Inv X pins σ H s) (hH:H l=some (.lst xs))
  (e:s.heap.get? l=some {cls:=.type "list",data:=.seq its.toArray n}) (hf:f its.toArray=its'.toArray) (hv:Vals ys its') (hz:ys.length≤sizeLine) :
  Inv X pins σ (upd H l (.lst ys)) {s with heap:=s.heap.update l (Obj.mapSeq f),toks:=t'}:=by
 have q:=PySem.IsL.update e f
 rw [hf] at q
 refine I.write (x:=l) (e:=l) (by rw [hH]; exact trivial) (.inl rfl) (fun b' u hb hu=>(Heap.get?_update_other s.heap (Obj.mapSeq f) (Ne.symm hb)).trans hu) ⟨_,q⟩ ?_
 exact⟨hz,its',_,hv,q⟩
theorem Inv.lnew {its:List Value} {t':Nat} (I:Inv X pins σ H s) (hv:Vals ys its) (hz:ys.length≤sizeLine) :
  Inv X pins σ (upd H s.heap.objs.size (.lst ys)) {s with heap:=s.heap.push {cls:=.type "list",data:=.seq its.toArray},toks:=t'}:=
 I.laid (fun _ _ q=>Heap.get?_push_of_some _ q) (Nat.le_refl _) ⟨hz,its,0,hv,Heap.get?_push_size _ rfl⟩
theorem Inv.fresh (I:Inv X pins σ H s):H s.heap.objs.size=none:=I.hok.fresh (Nat.le_refl _)
theorem Inv.lstM (I:Inv X pins σ H s) (hH:H l=some (.lst xs)):xs.length≤sizeLine∧∃ (its:List Value) (n:Nat),Vals xs its∧xs.length=its.length∧s.heap.get? l=some {cls:=.type "list",data:=.seq its.toArray n}:=by
 obtain⟨z,its,n,r,e⟩:=I.hok l _ hH
 exact⟨z,its,n,r,r.length,e⟩
theorem notLongL {n:Nat} (h:n≤sizeLine):Builtin.List.listTooLong n=false:=by
 unfold Builtin.List.listTooLong
 exact decide_eq_false (by omega)
end
section
variable {X:Cx}
def rAppend:V→List V→Hp→VK→Prop:=fun x vs H Q=>∃ l xs y,x=.ref l∧vs=[y]∧H l=some (.lst xs)∧xs.length<sizeLine∧Q .non (upd H l (.lst (xs++[y])))
theorem mt_append:MtM X "list.append" rAppend:=by
 intro pins s σ H x vs v us Q I rx rv h
 obtain⟨l,xs,y,rfl,rfl,hH,hz,q⟩:=h
 cases rx
 obtain⟨u,rfl,ru⟩:=rv.one
 obtain⟨z,its,n,r,hl,e⟩:=I.lstM hH
 refine call_meets F.slot_list_append ⟨_,e,rfl⟩ F.entry_list_append (F.args_list_append_2 _ _) (PySem.list_append l its.toArray n u (by rw [List.size_toArray]; omega)) ⟨e,?_⟩
 refine⟨.non,_,I.lset (its':=its++[u]) hH e (by simp) (r.append (.cons ru .nil)) ?_,rfl,q⟩
 rw [List.length_append,List.length_singleton]
 omega
def rPop:V→List V→Hp→VK→Prop:=fun x vs H Q=>∃ l xs y,x=.ref l∧vs=[]∧H l=some (.lst xs)∧xs[xs.length-1]? = some y∧Q y (upd H l (.lst xs.dropLast))
theorem mt_pop:MtM X "list.pop" rPop:=by
 intro pins s σ H x vs v us Q I rx rv h
 obtain⟨l,xs,y,rfl,rfl,hH,hy,q⟩:=h
 cases rx
 have hus:=rv.zero
 subst hus
 obtain⟨z,its,n,r,hl,e⟩:=I.lstM hH
 obtain⟨u,hu,ru⟩:=r.get hy
 have hy':its.toArray[its.toArray.size-1]? = some u:=by
  show its.toArray[its.length-1]? = some u
  rw [← Array.getElem?_toList,← hl]
  exact hu
 refine call_meets F.slot_list_pop ⟨_,e,rfl⟩ F.entry_list_pop (F.args_list_pop_1 _) (MeetsSeq.list_pop_last l its.toArray n u hy' (by rw [List.size_toArray]; omega)) ⟨e,?_⟩
 refine⟨y,_,I.lset (its':=its.dropLast) hH e ?_ r.dropLast ?_,ru,q⟩
 ·show its.toArray.eraseIdxIfInBounds (its.toArray.size-1)=its.dropLast.toArray
  rw [List.size_toArray,List.eraseIdxIfInBounds_toArray,erase_last]
 ·rw [List.length_dropLast]
  omega
def rPopAt:V→List V→Hp→VK→Prop:=fun x vs H Q=>∃ l xs i k y,x=.ref l∧vs=[.int i]∧H l=some (.lst xs)∧-(2 ^ 63)≤i∧i<2 ^ 63∧seqIndex? i xs.length=some k∧xs[k]? = some y∧Q y (upd H l (.lst (xs.eraseIdx k)))
theorem mt_popAt:MtM X "list.pop" rPopAt:=by
 intro pins s σ H x vs v us Q I rx rv h
 obtain⟨l,xs,i,k,y,rfl,rfl,hH,h1,h2,hk,hy,q⟩:=h
 cases rx
 obtain⟨u,rfl,ru⟩:=rv.one
 obtain⟨t,rfl⟩:=ru
 obtain⟨z,its,n,r,hl,e⟩:=I.lstM hH
 obtain⟨w,hw,rw'⟩:=r.get hy
 refine call_meets F.slot_list_pop ⟨_,e,rfl⟩ F.entry_list_pop (F.args_list_pop_2 _ _)
  (MeetsSeq.list_pop_at l its.toArray n i t k w (fitsIndex_both h1 h2) (by rw [List.size_toArray,← hl]; exact hk) (by rw [← Array.getElem?_toList]; exact hw) (by rw [List.size_toArray]; omega)) ⟨e,?_⟩
 refine⟨y,_,I.lset (its':=its.eraseIdx k) hH e ?_ (r.eraseIdx k) ?_,rw',q⟩
 ·show its.toArray.eraseIdxIfInBounds k=(its.eraseIdx k).toArray
  rw [List.eraseIdxIfInBounds_toArray]
 ·have:=len_erase xs k
  omega
def rCat:R2:=fun x y H Q=>∃ l b xs zs,x=.ref l∧y=.ref b∧H l=some (.lst xs)∧H b=some (.lst zs)∧xs.length+zs.length≤sizeLine∧∀ p,H p=none→Q (.ref p) (upd H p (.lst (xs++zs)))
theorem op_cat:OpR X (binaryOp .Add) rCat:=by
 intro pins s σ H x y v u Q I rx ry h
 obtain⟨l,b,xs,zs,rfl,rfl,hH,hB,hz,q⟩:=h
 cases rx
 cases ry
 obtain⟨z,its,n,r,hl,e⟩:=I.lstM hH
 obtain⟨z2,its2,n2,r2,hl2,e2⟩:=I.lstM hB
 refine PySem.P.add_list e e2 ?_ (by rw [List.size_toArray,List.size_toArray]; omega)
 have ea:its.toArray++its2.toArray=(its++its2).toArray:=by simp
 rw [ea]
 exact⟨.ref _,_,I.lnew (t':=s.toks) (r.append r2) (by rw [List.length_append]; omega),rfl,q _ I.fresh⟩
def rRep:R2:=fun x y H Q=>∃ l k xs,x=.ref l∧y=.int k∧H l=some (.lst xs)∧-(2 ^ 63)≤k∧k<2 ^ 63∧xs.length*k.toNat≤sizeLine∧
 ∀ p,H p=none→Q (.ref p) (upd H p (.lst (List.replicate k.toNat xs).flatten))
theorem len_rep {α:Type} (xs:List α) (k:Nat):(List.replicate k xs).flatten.length=k*xs.length:=by
 induction k with
 | zero=>simp
 | succ k ih=>rw [List.replicate_succ,List.flatten_cons,List.length_append,ih,Nat.succ_mul,Nat.add_comm]
theorem op_rep:OpR X (binaryOp .Mult) rRep:=by
 intro pins s σ H x y v u Q I rx ry h
 obtain⟨l,k,xs,rfl,rfl,hH,h1,h2,hz,q⟩:=h
 cases rx
 obtain⟨t,rfl⟩:=ry
 obtain⟨z,its,n,r,hl,e⟩:=I.lstM hH
 have hlen:its.toArray.size*k.toNat≤sizeLine:=by rw [List.size_toArray,← hl]; exact hz
 have hcap:¬ its.toArray.size*k.toNat > (2 ^ 63-1) / 8:=by
  have : (sizeLine:Nat)≤(2 ^ 63-1) / 8:=by decide
  omega
 have hfit:¬ (!Builtin.List.listFitsIndex k)=true:=by
  rw [fitsIndex_both h1 h2]
  exact Bool.false_ne_true
 have hlong:¬ Builtin.List.listTooLong (its.toArray.size*k.toNat)=true:=by
  rw [notLongL hlen]
  exact Bool.false_ne_true
 have hnew:List.foldl (fun x1 x2=>x1++x2) #[] (List.replicate (if its.toArray.isEmpty=true then 0 else k.toNat) its.toArray)=(List.replicate k.toNat its).flatten.toArray:=by
  have f0:∀ m:Nat,List.foldl (fun x1 x2=>x1++x2) #[] (List.replicate m its.toArray)=(List.replicate m its).flatten.toArray:=fun m=>by
   have:=foldl_rep its m []
   rw [List.nil_append] at this
   exact this
  rw [f0]
  cases its with
  | nil=>simp
  | cons a r'=>rw [if_neg (by simp)]
 refine wpAny_binaryOp_repeat_ref (T:="list") (U:="int") (by decide) ⟨_,e,rfl⟩ (fun s'=>typeIs_int s' k t) noFill_list_mul F.fills_int_mul F.slot_int_rmul repeat_list F.slot_int_index.lookup
  (call_meets F.slot_int_rmul (typeIs_int s k t) F.entry_int_rmul (F.args_int_rmul_2 _ _) (int___rmul___int_list k t l its.toArray n)
   ⟨e,rfl,⟨_,e,rfl⟩,call_meets F.slot_list_mul ⟨_,e,rfl⟩ F.entry_list_mul (F.args_list_mul_2 _ _) (AutoListH.list___mul___list_int_3 l its.toArray n k t hfit hcap hlong) ⟨e,?_⟩⟩)
 rw [hnew]
 exact⟨.ref _,_,I.lnew (t':=s.toks) (r.rep k.toNat) (by rw [len_rep,Nat.mul_comm]; exact hz),rfl,q _ I.fresh⟩
end
section
variable {prog:Program} {w:World} {A:Around} {E:Value→Shared→Prop} {s:Shared}
end
section
variable {X:Cx}
end
end L2
namespace Att
open PySem PySem.W PySem.Calls PyProof.Rows
theorem ints_of_wellAll {P:Params} {h:Heap}:∀ (ns:List Int) (vs:List Value),WellAll P h vs (ns.map WData.int)→IntsAre vs ns:=by
 intro ns
 induction ns with
 | nil=>
  intro vs w
  rw [List.map_nil] at w
  cases w
  exact .nil
 | cons n ns ih=>
  intro vs w
  rw [List.map_cons] at w
  cases w with
  | cons a b=>
   cases a
   exact .cons _ _ (ih _ b)
theorem script_of {l:OpenLaw} {n:Nat} (hn:l.most=some n) {P:Params} {h:Heap} {args:List WData} {vals:List Value}
  (hpre:l.row.toRowW.claim.pre args=true) (hwl:WellAll P h vals args) :
  ∃ a vs ns,vals=[Value.ref a]∧args=[WData.list (ns.map WData.int)]∧h.get? a=some {cls:=.type "list",data:=.seq vs.toArray}∧IntsAre vs ns∧ns.length≤n:=by
 have hsh:WShape.hasAll [] args [.list .int]=true:=(pre_splitW hpre).1
 have hc:l.pre.holds [] {args:=args}=true:=(pre_splitW hpre).2
 obtain⟨d,r,rfl,h1,h2⟩:=hasAllW_cons hsh
 obtain rfl:=hasAllW_nil h2
 obtain⟨xs,rfl,h3⟩:=hasW_list h1
 obtain⟨ns,rfl⟩:=items_int h3
 have hlen:ns.length≤n:=by
  unfold OpenLaw.pre at hc
  have h4:(WTm.not (.lt (.lit (.int (n:Int))) (.len (.arg 0)))).holds [] {args:=[.list (ns.map .int)]}=true:=by
   have h4:=(holds_andW hc).1
   rw [hn] at h4
   exact h4
  have h5:=condW_of h4 (w_not (w_lt w_lit (w_len_list (w_arg rfl))))
  rw [List.length_map] at h5
  refine Nat.le_of_not_lt fun q=>?_
  have q':(n:Int)<((ns.length:Nat):Int):=by omega
  first
   | (rw [decide_eq_true q'] at h5; exact absurd h5 (by decide))
   | (simp at h5; omega)
 cases hwl with
 | cons w1 w2=>
  cases w2
  cases w1 with
  | list ho hall=>exact⟨_,_,ns,rfl,rfl,ho,ints_of_wellAll ns _ hall,hlen⟩
theorem post_true (l:OpenLaw) (args:List WData):l.row.toRowW.claim.post args (.bool true) args=true:=
 postW_of (r:=l.row.toRowW) (X:=(true==true))
  (show WShape.has [] (.bool true) .bool=true by first | rfl | decide | simp [WShape.has,WShape.arms,WShape.armsAll])
  (show (WTm.eq .res (.lit (.bool true))).value [] {args:=args,res:=some (.bool true),after:=args}=some (.bool (true==true)) from w_eq_bool (w_res rfl) w_lit) rfl
theorem attach_call {l:OpenLaw} {n:Nat} {q:Program} {loose:List Str} {XP:(Str→Option Value)→Heap→Prop} {YP:World→Heap→Prop} {d:DefRec}
  (hn:l.most=some n) (hdf:d.params.defaults=[])
  (call:∀ (w:World) (s₀ s₁:Shared) (mg mb:Str→Option Value) (fa:Addr) (o:Obj) (pm cd doc:Value) (a:Addr) (vs:List Value) (ns:List Int),
   Ground q loose [] XP w s₀ mg mb s₁.heap→YP w s₁.heap→
   s₁.heap.get? fa=some o→o.data=.func (docDef d.name d.params d.body d.scope pm cd doc)→s₁.heap.CodeRec cd d.name→mg d.name=some (.ref fa)→
   s₁.heap.get? a=some {cls:=.type "list",data:=.seq vs.toArray}→IntsAre vs ns→ns.length≤n→s₁.gens=#[]→
   codeAny (model l.prog w) callerA (.call (.ref fa) ⟨[.ref a],[]⟩) (fun r s'=>r=.ok (.ret (.bool true))∧OldK s₁.heap s'.heap∧s'.os=s₁.os∧AllBare s'.gens) s₁) :
  WalkO q loose XP YP l.row.toRowW d [] (fun f vs=>PySem.call f vs):=by
 intro w s₀ s₁ mg mb G Y fa o pm cd doc dV kV ho hd hcd hD hmg hg args vals as hpre hlay hrd hwl hlo
 obtain rfl:dV=.none:=Dflts.none hD hdf
 obtain rfl:kV=.none:=Dflts.noKw hD
 obtain⟨a,vs,ns,rfl,rfl,hobj,hints,hlen⟩:=script_of hn hpre hwl
 refine enter_call (codeAny_mono (call w s₀ s₁ mg mb fa o pm cd doc a vs ns G Y ho (fd_plain hd) hcd hmg hobj hints hlen hg) fun r s' hq=>?_)
 obtain⟨rfl,h2,h3,h4⟩:=hq
 exact⟨.inl ⟨.bool true,.bool true,[],rfl,fun _=>rfl,.bool true,post_true l _,fun _=>⟨List.Pairwise.nil,fun _ hm=>(nomatch hm)⟩⟩,h2,h3,h4⟩
section
variable {prog:Program} {w:World} {A:Around} {E:Value→Shared→Prop} {s:Shared} {K:Frag}
end
end Att
namespace L2
open PySem PySem.Spec PyProof.Rows
theorem vals_ints:∀ {vs:List Value} {ns:List Int},IntsAre vs ns→Vals (ns.map V.int) vs
 | _,_,.nil=>.nil
 | _,_,.cons n t h=>.cons ⟨t,rfl⟩ (vals_ints h)
def Only (H:Hp):Prop:=∀ b,H b=none∨∃ o xs,H b=some (.frz o (.lst xs))
theorem law_call {P:Program} {w:World} {K:PySem.W.Frag} {mg mb:Str→Option Value} {CX:CXT} {k:Nat} {fa a:Addr} {fd:FuncData} {x:Str} {sp:Sp} {s₁:Shared} {vs:List Value} {ns:List Int}
  (KX:K.In s₁.heap) (hns:s₁.heap.Ns mainGlobals mg) (hb:s₁.heap.Ns builtinsNs mb) (hbb:∀ x:Str,x≠"__name__"→mb x=bootBuiltins x) (hlim:s₁.heap.NoLimit) (hsys:∃ mm,s₁.heap.Ns sysModules mm) (hg:s₁.gens=#[])
  (ha:s₁.heap.get? a=some {cls:=.type "list",data:=.seq vs.toArray}) (hi:IntsAre vs ns) (hl:ns.length≤sizeLine) (hr:Room k callerA)
  (F:∀ base:Heap,K.In base→base.Ns mainGlobals mg→FnOk P w K mg base CX k fa fd [x] sp) (hbind:∀ (s:Shared) (u:Value),BindsTo s fd ⟨[u],[]⟩ [(x,u)])
  (hsp:∀ H:Hp,Only H→SqL K H a (ns.map V.int)→sp [.ref a] H (fun v _=>v=.bl true) fun _ _ _=>False)
  (hCX:∀ H e s',CX [] H s₁ (fun _ _ _=>False) e s'→False) :
  codeAny (model P w) callerA (.call (.ref fa) ⟨[.ref a],[]⟩) (fun r s'=>r=.ok (.ret (.bool true))∧OldK s₁.heap s'.heap∧s'.os=s₁.os∧AllBare s'.gens) s₁:=by
 have rv:=vals_ints hi
 have lenV:=hi.length
 have core:∀ H:Hp,Only H→SqL K H a (ns.map V.int)→HOk P w H s₁.heap→(∀ b,H b≠none→b=a)→(H a≠none→K.lookup a=none)→
   codeAny (model P w) callerA (.call (.ref fa) ⟨[.ref a],[]⟩) (fun r s'=>r=.ok (.ret (.bool true))∧OldK s₁.heap s'.heap∧s'.os=s₁.os∧AllBare s'.gens) s₁:=by
  intro H hO hS hok hA hK
  have base_of:∀ {b:Addr} {o:Obj},s₁.heap.get? b=some o→H b=none→(hidT s₁.heap H).get? b=some o:=fun e n=>hidT_get e n
  have noA:∀ {b:Addr} {o:Obj} {es:Array DictEntry} {ep:Nat},s₁.heap.get? b=some o→o.data=.dict es ep→H b=none:=fun {b o es ep} e d=>by
   cases q:H b with
   | none=>rfl
   | some u=>
    have e':b=a:=hA b (by rw [q]; simp)
    subst e'
    rw [ha] at e; cases e
    have d':Data.seq vs.toArray _=Data.dict es ep:=d
    cases d'
  have nsK:∀ {b:Addr} {m:Str→Option Value},s₁.heap.Ns b m→(hidT s₁.heap H).Ns b m:=fun {b m} ⟨o,es,ep,e,d,r⟩=>⟨o,es,ep,base_of e (noA e d),d,r⟩
  have hKb:K.In (hidT s₁.heap H):=fun b o e=>base_of (KX b o e) (by
   cases q:H b with
   | none=>rfl
   | some u=>
    have e':b=a:=hA b (by rw [q]; simp)
    subst e'
    rw [hK (by rw [q]; simp)] at e; cases e)
  have hM:Mod K mg (hidT s₁.heap H):=⟨hKb,nsK hns,⟨mb,nsK hb,hbb⟩,let ⟨mc,h1,h2⟩:=hlim; ⟨mc,nsK h1,h2⟩,let ⟨mm,h1⟩:=hsys; ⟨mm,nsK h1⟩⟩
  have e0:Env0 P w K mg (hidT s₁.heap H) callerA [] s₁ H:=⟨rfl,hM,fun b o e=>of_hidT e,Nat.le_of_eq (hidT_size _ _),trivial,fun b hb=>absurd (show b∈([]:List Addr) from hb) (by simp),hok,.of_eq hg⟩
  refine codeAny_mono ((F _ hKb (nsK hns)).run callerA [] s₁ H ⟨[.ref a],[]⟩ [.ref a] [.ref a] _ _ hr e0 (hbind s₁ (.ref a)) (.cons rfl .nil) (hsp H hO hS)) fun r s' h=>?_
  cases r with
  | error e=>exact(hCX H e s' h).elim
  | ok fl=>
   cases fl with
   | next=>exact False.elim h
   | brk=>exact False.elim h
   | cont=>exact False.elim h
   | ret u=>
    obtain⟨v,H',os,bare,un,hok',r',q⟩:=h
    have q':v=.bl true:=q
    subst q'
    obtain rfl:u=Value.bool true:=r'
    refine⟨rfl,OldK.of_keep fun b o e=>?_,os,bare⟩
    cases q:H b with
    | none=>exact un.keep b o e q (by intro z; exact absurd (show b∈([]:List Addr) from z) (by simp)) (by simp)
    | some u=>
     rcases hO b with z | ⟨ob,xs,z⟩
     ·rw [q] at z; cases z
     ·have z2:=un.frzs b ob _ z
      obtain⟨e1,_⟩:=hok b _ z
      obtain⟨e2,_⟩:=hok' b _ z2
      rw [e] at e1; cases e1
      exact e2
 cases hk:K.lookup a with
 | some o=>
  have e:=KX a o hk
  rw [ha] at e
  cases e
  refine core (fun _=>none) (fun _=>.inl rfl) (.inr ⟨_,vs.toArray,_,hk,rfl,rfl,rfl,by rw [List.size_toArray,lenV]; exact hl,by simpa using rv⟩) (fun b u z=>by have z':(none:Option HO)=some u:=z; cases z') (fun b z=>absurd rfl z) fun z=>absurd rfl z
 | none=>
  refine core (fun b=>if b=a then some (.frz {cls:=.type "list",data:=.seq vs.toArray} (.lst (ns.map V.int))) else none) (fun b=>?_) (.inl (.inr ⟨{cls:=.type "list",data:=.seq vs.toArray},if_pos rfl⟩)) (fun b u z=>?_) (fun b z=>?_) fun _=>hk
  ·by_cases hb:b=a
   ·exact .inr ⟨_,_,if_pos hb⟩
   ·exact .inl (if_neg hb)
  ·by_cases hb:b=a
   ·have z':=(if_pos hb).symm.trans z
    cases z'
    subst hb
    exact⟨ha,by rw [List.length_map]; exact hl,vs,_,rv,ha⟩
   ·have z':=(if_neg hb).symm.trans z
    cases z'
  ·by_cases hb:b=a
   ·exact hb
   ·exact absurd (if_neg hb) z
theorem walk_of {l:PySem.W.OpenLaw} {n k:Nat} {q:Program} {loose:List Str} {XP:(Str→Option Value)→Heap→Prop} {YP:World→Heap→Prop} {d:DefRec} {K:Params→PySem.W.Frag} {CX:World→CXT} {sp:World→Sp} {x:Str}
  (hn:l.most=some n) (hn2:n≤sizeLine) (hdf:d.params.defaults=[]) (hr:Room k callerA) (hq:importsNone q=true)
  (hY:∀ (w:World) (h:Heap),YP w h→(K w.params).In h)
  (F:∀ (w:World) (mg:Str→Option Value) (fa:Addr) (h:Heap),(K w.params).In h→h.Ns mainGlobals mg→mg d.name=some (.ref fa)→
   ∃ fd:FuncData,(∀ (s:Shared) (u:Value),BindsTo s fd ⟨[u],[]⟩ [(x,u)])∧
    ∀ base:Heap,(K w.params).In base→base.Ns mainGlobals mg→FnOk l.prog w (K w.params) mg base (CX w) k fa fd [x] (sp w))
  (hsp:∀ (w:World) (H:Hp) (a:Addr) (ns:List Int),ns.length≤n→Only H→SqL (K w.params) H a (ns.map V.int)→sp w [.ref a] H (fun v _=>v=.bl true) fun _ _ _=>False)
  (hCX:∀ (w:World) (H:Hp) (s:Shared) (e:Value) (s':Shared),CX w [] H s (fun _ _ _=>False) e s'→False) :
  PySem.W.WalkO q loose XP YP l.row.toRowW d [] (fun f vs=>PySem.call f vs):=by
 refine Att.attach_call hn hdf fun w s₀ s₁ mg mb fa o pm cd doc a vs ns G Y ho hd hcd hmg hobj hints hlen hg=>?_
 have KX:=hY w _ Y
 obtain⟨fd,hb,hF⟩:=F w mg fa _ KX G.T.g hmg
 exact law_call KX G.T.g G.T.b G.T.builtins G.T.nolimit (let ⟨mm,x,_⟩:=(G.T.seer hq).mods; ⟨mm,x⟩) hg hobj hints (Nat.le_trans hlen hn2) hr hF hb (fun H hO hS=>hsp w H a ns hlen hO hS) fun H e s'=>hCX w H s₁ e s'
def inClass (s:Stmt) (j:Nat):Stmt:=match s with
 | .ClassDef _ _ _ body _ _ _ _ _ _ _=>body.getD j (.Pass ⟨0,0,0,0⟩)
 | _=>.Pass ⟨0,0,0,0⟩
def defArgs (s:Stmt):Arguments:=match s with
 | .FunctionDef _ a _ _ _ _ _ _ _ _=>a
 | _=>{posonlyargs:=[],args:=[],vararg:=none,kwonlyargs:=[],kw_defaults:=[],kwarg:=none,defaults:=[]}
def defBody (s:Stmt):List Stmt:=match s with
 | .FunctionDef _ _ b _ _ _ _ _ _ _=>b
 | _=>[]
def defScope (s:Stmt):Scope:=match s with
 | .FunctionDef _ _ _ _ _ _ sc _ _ _=>sc
 | _=>{kind:=.function,names:=[],isGenerator:=false,isCoroutine:=false}
abbrev CX0:CXT:=fun _ _ _ _ _ _=>False
abbrev E0:XK:=fun _ _ _=>False
theorem pass0 {X:Cx}:Passes CX0 X E0:=fun _ _ _ _ _ _ _ h=>h.elim
structure Fun (K:PySem.W.Frag) (x qual:Str) (st:Stmt) (f:Addr) (fd:FuncData):Prop where
 ex:∃ (oc:Value) (od:Option Addr) (kV doc pm:Value) (an:Option Addr) (cdv ct:Value) (osl:Array (Option Value)),
  fd=PySem.W.fnOf x qual (defArgs st) (defBody st) (defScope st) .none kV doc pm an cdv ct∧K.lookup f=some ⟨oc,od,.func fd,osl⟩∧PySem.W.codeIn K cdv qual=true
 kp:PySem.W.keepIn K (.ref f)=true
section
variable {P:Program} {w:World} {K:PySem.W.Frag} {mg:Str→Option Value} {base:Heap}
theorem Fun.ok {x qual:Str} {st:Stmt} {f:Addr} {fd:FuncData} {N ps:List Str} {k:Nat} {sp:Sp} (F:Fun K x qual st f fd) (S:FnScope N ps (defScope st)) (len:∀ vs H Q E,sp vs H Q E→vs.length=ps.length)
  (hbody:∀ (cdv:Value) (A:Around) (outer:List Env) (s:Shared) (H:Hp) (vs:List V) (Q:VK) (E:XK),Room k (A.deeper (envOfC qual (defScope st) s.heap.objs.size f cdv))→sp vs H Q E→
   ∃ t,PSs (cxOf CX0 P w K mg base N qual (defScope st) f cdv A outer s H E).nox (defBody st) t∧t {nx:=fun _ H'=>Q .non H',rt:=Q} (start N vs) H):FnOk P w K mg base CX0 (k+1) f fd ps sp:=by
 obtain⟨oc,od,kV,doc,pm,an,cdv,ct,osl,rfl,lk,hcd⟩:=F.ex
 refine fn_of lk hcd S len fun A outer s H vs Q E hr hsp=>?_
 obtain⟨t,h,q⟩:=hbody cdv A outer s H vs Q E hr hsp
 exact⟨t,h.nox,q⟩
theorem Fun.binds {x qual:Str} {st:Stmt} {f:Addr} {fd:FuncData} {ps:List Str} (F:Fun K x qual st f fd)
  (h:∀ (kV doc pm:Value) (an:Option Addr) (cdv ct:Value) (us:List Value),us.length=ps.length→bindArgs (PySem.W.fnOf x qual (defArgs st) (defBody st) (defScope st) .none kV doc pm an cdv ct) ⟨us,[]⟩=pure (ps.zip us)):Binds K fd ps []:=by
 obtain⟨oc,od,kV,doc,pm,an,cdv,ct,osl,rfl,lk,hcd⟩:=F.ex
 exact .all (h kV doc pm an cdv ct)
theorem fun_mk {x qual:Str} {st:Stmt} {f:Addr} {oc:Value} {od an:Option Addr} {osl:Array (Option Value)} {kV doc pm cdv ct:Value} (l:K.lookup f=some ⟨oc,od,.func (PySem.W.fnOf x qual (defArgs st) (defBody st) (defScope st) .none kV doc pm an cdv ct),osl⟩)
  (c:PySem.W.codeIn K cdv qual=true) (k:PySem.W.keepIn K (.ref f)=true):Fun K x qual st f (PySem.W.fnOf x qual (defArgs st) (defBody st) (defScope st) .none kV doc pm an cdv ct):=⟨⟨oc,od,kV,doc,pm,an,cdv,ct,osl,rfl,l,c⟩,k⟩
end
theorem hu_of {A:Around} {k:Nat} (hr:Room k A):A.units+1<cLine:=Nat.lt_of_le_of_lt (Nat.add_le_add_left (by decide:1≤64) _) hr.units
section
variable {X:Cx}
end
theorem iteF {A B:Prop} (h:B):if false=true then A else B:=by
 rw [if_neg Bool.false_ne_true]
 exact h
theorem ite2 {c A B:Prop} [Decidable c] (h1:c→A) (h2:¬ c→B):if c then A else B:=by
 by_cases h:c
 ·rw [if_pos h]
  exact h1 h
 ·rw [if_neg h]
  exact h2 h
theorem iteNS {c A B:Prop} [Decidable c] (hc:c) (h:B):if (!decide c)=true then A else B:=by
 rw [decide_eq_true hc]
 exact iteF h
def Same (H H':Hp):Prop:=∀ b o,H b=some o→H' b=some o
theorem Same.refl (H:Hp):Same H H:=fun _ _ h=>h
theorem Same.trans {H H1 H2:Hp} (a:Same H H1) (b:Same H1 H2):Same H H2:=fun c o h=>b c o (a c o h)
theorem Same.free {H H':Hp} (e:Same H H') {l:Addr} (h:H' l=Option.none):H l=Option.none:=by
 cases q:H l with
 | none=>rfl
 | some o=>
  rw [e l o q] at h
  cases h
theorem Same.seq {K:PySem.W.Frag} {H H':Hp} {a:Addr} {xs:List V} (e:Same H H') (h:SqL K H a xs):SqL K H' a xs:=by
 rcases h with (h | ⟨o,h⟩) | h
 ·exact .inl (.inl (e _ _ h))
 ·exact .inl (.inr ⟨o,e _ _ h⟩)
 ·exact .inr h
end L2
set_option maxHeartbeats 4000000
namespace L2
open PySem PySem.Spec PyProof.Rows
theorem codeAny_compLoop_any {prog:Program} {w:World} {A:Around} {R:Result→Shared→Prop} {s:Shared} {elt target iter:Expr} {scope:Scope} {pos:Pos} {it acc:Value} {env:Env} (I:Nat→Shared→Prop)
  (turn:∀ n s,I n s→wpAny (model prog w) A (pyNext it) (fun r s1=>match r with
   | none=>R (.ok .next) s1
   | some v=>wpAny (model prog w) A (letOwnedTupleGo target it v) (fun _ s1'=>wpAny (model prog w) A (assign target env v) (fun _ s2=>
     wpAny (model prog w) A (eval elt env) (fun x s4=>
       wpAny (model prog w) A (call (.builtin "list.append") [acc,x]) (fun _ s5=>∃ m,m<n∧I m s5) (notedBy (model prog w) A env fun e s'=>R (.error e) s') s4) (notedBy (model prog w) A env fun e s'=>R (.error e) s') s2)
     (notedBy (model prog w) A env fun e s'=>R (.error e) s') s1') (notedBy (model prog w) A env fun e s'=>R (.error e) s') s1) (notedBy (model prog w) A env fun e s'=>R (.error e) s') s)
  (n:Nat) (h:I n s):codeAny (model prog w) A (.compLoop (.ListComp elt [⟨target,iter,[],0⟩] scope pos) 0 it acc env) R s:=by
 refine codeAny_loop rfl I (fun n s hI=>?_) n h
 show wpAny _ A ((compTurn (.ListComp elt [⟨target,iter,[],0⟩] scope pos) 0 it acc env).onRaise (fun x=>do noteFrame x env; theTreesLotGoes x)) _ _ s
 refine wpAny_noted ?_
 rw [compTurn_list]
 refine wpAny_bind (wpAny_standAt (wpAny_bind (wpAny_mono (turn n s hI) (fun r s1 h1=>?_) fun _ _ h'=>h')))
 cases r with
 | none=>exact wpAny_pure h1
 | some v=>
  refine wpAny_bind (wpAny_mono h1 (fun _ s1' h1'=>?_) fun _ _ h'=>h')
  refine wpAny_bind (wpAny_mono h1' (fun _ s2 h2=>wpAny_bind (wpAny_mono (wpAny_tests_nil (Q:=fun ok s3=>ok=true∧s3=s2) ⟨rfl,rfl⟩) (fun ok s3 h3=>?_) fun _ _ h'=>h')) fun _ _ h'=>h')
  obtain⟨rfl,rfl⟩:=h3
  exact wpAny_bind (wpAny_bind (wpAny_mono h2 (fun x s4 h4=>wpAny_bind (wpAny_mono h4 (fun _ s5 h5=>wpAny_pure (wpAny_pure ⟨rfl,h5⟩)) fun _ _ h'=>h')) fun _ _ h'=>h'))
theorem lookup_relabel {env:Env}:∀ {names:List (Str×NameKind)} {x:Str},
  (names.map fun (n,k)=>if (k==NameKind.free&&env.scope.kind==.function&&env.kindOf n==some .cell) then (n,NameKind.cell) else (n,k)).lookup x =
   (names.lookup x).map fun k=>if (k==NameKind.free&&env.scope.kind==.function&&env.kindOf x==some .cell) then NameKind.cell else k
 | [],_=>rfl
 | (n,k)::r,x=>by
  have ih:=@lookup_relabel env r x
  show List.lookup x ((if (k==NameKind.free&&env.scope.kind==.function&&env.kindOf n==some .cell)=true then (n,NameKind.cell) else (n,k))::_)=_
  cases hx:x==n with
  | true=>
   have e:x=n:=eq_of_beq hx
   subst e
   by_cases hc:(k==NameKind.free&&env.scope.kind==.function&&env.kindOf x==some .cell)=true
   ·rw [if_pos hc]; simp only [List.lookup_cons,hx,Option.map_some,hc,if_true]
   ·rw [if_neg hc]; simp only [List.lookup_cons,hx,Option.map_some,hc]; rfl
  | false=>
   by_cases hc:(k==NameKind.free&&env.scope.kind==.function&&env.kindOf n==some .cell)=true
   ·rw [if_pos hc]; simp only [List.lookup_cons,hx]; exact ih
   ·rw [if_neg hc]; simp only [List.lookup_cons,hx]; exact ih
def lookOk (n:Nat) (N' N:List Str) (names:List (Str×NameKind)):Bool:=
 (List.range N.length).all fun i=>match N'[n+i]? with
  | none=>true
  | some x=>(names.lookup x==some .free&&N[i]? == some x) || !(names.lookup x==some .local||names.lookup x==some .cell||names.lookup x==some .free)
structure CompScope (n:Nat) (N':List Str) (X:Cx) (scope:Scope):Prop where
 kind:scope.kind=.function
 names:∀ x∈scope.names,x.2=.local→scope.names.lookup x.1=some .local
 cell:∀ x∈scope.names,x.2≠.cell
 free:∀ x∈scope.names,x.2=.free→X.env.kindOf x.1=some .cell∨X.env.kindOf x.1=some .free
 nd:N'.Nodup
 len:N'.length=n+X.N.length
 look:lookOk n N' X.N scope.names=true
theorem closure_ok {scope:Scope} {env:Env} (hh:∀ x∈scope.names,x.2=.free→∃ c,env.cells.lookup x.1=some c) :
  ∃ cl,closureFor scope env=pure cl∧(∀ x c,cl.lookup x=some c→env.cells.lookup x=some c)∧∀ x∈scope.names,x.2=.free→∃ c,cl.lookup x.1=some c:=by
 have all:∀ (l:List (Str×NameKind)) (cs:List (Str×Addr)),(∀ x∈l,x.2=.free→∃ c,env.cells.lookup x.1=some c)→(∀ x c,cs.lookup x=some c→env.cells.lookup x=some c)→
   ∃ cl,(forIn l cs fun (x:Str×NameKind) r=>if x.2==NameKind.free then (do let a ← cellOf env x.1; pure (ForInStep.yield ((x.1,a)::r))) else pure (ForInStep.yield r):Sem (List (Str×Addr)))=pure cl∧
    (∀ x c,cl.lookup x=some c→env.cells.lookup x=some c)∧(∀ x∈l,x.2=.free→∃ c,cl.lookup x.1=some c)∧∀ x,(∃ c,cs.lookup x=some c)→∃ c,cl.lookup x=some c:=by
  intro l
  induction l with
  | nil=>intro cs _ h; exact⟨cs,rfl,h,(fun _ h=>nomatch h),fun _ h=>h⟩
  | cons y r ih=>
   intro cs hf h
   obtain⟨n,k⟩:=y
   by_cases hk:k=.free
   ·subst hk
    obtain⟨a,ha⟩:=hf (n,.free) List.mem_cons_self rfl
    have h':∀ x c,List.lookup x ((n,a)::cs)=some c→env.cells.lookup x=some c:=fun x c e=>by
     cases hx:x==n with
     | true=>
      simp only [List.lookup_cons,hx] at e
      have q:x=n:=eq_of_beq hx
      subst q
      rw [ha]; exact e
     | false=>
      simp only [List.lookup_cons,hx] at e
      exact h x c e
    obtain⟨cl,e1,e2,e3,e4⟩:=ih ((n,a)::cs) (fun x hx=>hf x (List.mem_cons_of_mem _ hx)) h'
    refine⟨cl,?_,e2,fun x hx hxf=>?_,fun x hx=>?_⟩
    ·rw [List.forIn_cons]
     have e5:cellOf env n=pure a:=by unfold cellOf; rw [ha]
     simp only [beq_self_eq_true,if_true,e5,pure_bind]
     exact e1
    ·rcases List.mem_cons.mp hx with rfl | hx
     ·exact e4 _ ⟨a,by simp [List.lookup_cons]⟩
     ·exact e3 x hx hxf
    ·obtain⟨c,hc⟩:=hx
     refine e4 x ?_
     cases hx:x==n with
     | true=>exact⟨a,by simp only [List.lookup_cons,hx]⟩
     | false=>exact⟨c,by simp only [List.lookup_cons,hx]; exact hc⟩
   ·obtain⟨cl,e1,e2,e3,e4⟩:=ih cs (fun x hx=>hf x (List.mem_cons_of_mem _ hx)) h
    refine⟨cl,?_,e2,fun x hx hxf=>?_,e4⟩
    ·rw [List.forIn_cons]
     have : (k==NameKind.free)=false:=by simpa using hk
     simp only [this,Bool.false_eq_true,if_false,pure_bind]
     exact e1
    ·rcases List.mem_cons.mp hx with rfl | hx
     ·exact absurd hxf hk
     ·exact e3 x hx hxf
 obtain⟨cl,e1,e2,e3,_⟩:=all scope.names [] hh (fun _ _ h=>nomatch h)
 refine⟨cl,?_,e2,e3⟩
 unfold closureFor
 refine Eq.trans (b:=(pure cl>>=fun cs=>pure cs)) ?_ rfl
 refine Eq.trans ?_ (congrArg (fun (m:Sem (List (Str×Addr)))=>m>>=fun cs=>pure cs) e1)
 rfl
def cxComp (X:Cx) (N':List Str) (scope:Scope) (cl:List (Str×Addr)) (C:Addr) (ex:List Addr) (s:Shared) (H:Hp):Cx:=
 {X with N:=N',s₀:=s,H₀:=H,env:=compEnvC scope cl C X.env,outer:=X.stack,ex:=ex,fn:=fun _=>false,pn:=[]}
section
variable {X:Cx} {n:Nat} {N':List Str} {scope:Scope} {elt tg iter:Expr} {pos:Pos} {pins:List (Addr×Obj)} {σ:St} {H2:Hp} {s2:Shared} {cl:List (Str×Addr)}
def CompBack (X:Cx) (pins:List (Addr×Obj)) (σ:St) (Q:VK) (acc:Value) (C:Addr) (s':Shared):Prop:=
 ∃ (D:Addr) (H':Hp) (m:Str→Option Value),acc=.ref D∧Inv X pins σ H' s'∧s'.heap.Ns C m∧FpOk X pins H' C∧Q (.ref D) H'
theorem comp_inv {C D:Addr} {fp:List Addr} {s':Shared} {us:List Value} {k:Nat} (S:CompScope n N' X scope) (c1:∀ x c,cl.lookup x=some c→X.env.cells.lookup x=some c) (c2:∀ x∈scope.names,x.2=.free→∃ c,cl.lookup x.1=some c)
  (I2:Inv X pins σ H2 s2) (f2:∀ b∈fp,FpOk X pins H2 b) (fl:∀ b∈fp,@LT.lt Nat _ b s2.heap.objs.size) (hD:@Eq Nat D s2.heap.objs.size) (hC:@Eq Nat C (s2.heap.objs.size+1))
  (ho:s'.os=s2.os) (hg:s'.gens=s2.gens) (old:∀ b o,s2.heap.get? b=some o→s'.heap.get? b=some o) (hns:∃ m,s'.heap.Ns C m) (hd:s'.heap.get? D=some {cls:=.type "list",data:=.seq us.toArray k}) :
  Inv (cxComp X N' scope cl C fp s2 H2) [(D,{cls:=.type "list",data:=.seq us.toArray k})] (List.replicate n none++σ) H2 s':=by
 have frl:∀ b∈frs X.stack,@LT.lt Nat _ b s2.heap.objs.size:=fun b hb=>by
  obtain⟨_,o,ho,_⟩:=I2.stack.mem hb
  exact Heap.lt_size ho
 have celll:∀ x c,cl.lookup x=some c→c<s2.heap.objs.size:=fun x c e=>by
  obtain⟨v,q⟩:=I2.cell x c (c1 x c e)
  exact q.lt
 have kOf:∀ x,(cxComp X N' scope cl C fp s2 H2).env.kindOf x=(scope.names.lookup x).map fun k=>if (k==NameKind.free&&X.env.scope.kind==.function&&X.env.kindOf x==some .cell) then NameKind.cell else k:=fun x=>lookup_relabel
 have kfree:∀ x,((cxComp X N' scope cl C fp s2 H2).env.kindOf x=some .cell∨(cxComp X N' scope cl C fp s2 H2).env.kindOf x=some .free)→scope.names.lookup x=some .free:=fun x hx=>by
  rw [kOf x] at hx
  cases e:scope.names.lookup x with
  | none=>rw [e] at hx; rcases hx with hx | hx <;> cases hx
  | some kd=>
   rw [e] at hx
   cases kd with
   | free=>rfl
   | «local»=>rcases hx with hx | hx <;> (simp at hx)
   | cell=>exact absurd rfl (S.cell _ (PySem.mem_of_lookup e))
   | globalExplicit=>rcases hx with hx | hx <;> (simp at hx)
   | globalImplicit=>rcases hx with hx | hx <;> (simp at hx)
 have hasC:∀ x,scope.names.lookup x=some .free→∃ c,cl.lookup x=some c:=fun x hx=>c2 _ (PySem.mem_of_lookup hx) rfl
 have hH:∀ a,s2.heap.objs.size≤a→H2 a=none:=fun a ha=>I2.hok.fresh ha
 have ok:(cxComp X N' scope cl C fp s2 H2).Ok:=by
  refine⟨I2.ok.mod,S.kind,I2.ok.glob,I2.ok.blt,?_,fun x y c h1 h2=>?_,fun x hx=>hasC x (kfree x hx),fun x c h=>absurd h (by show ¬ (false=true); decide),I2.ok.hd,I2.ok.frames,.inl rfl,fun b hb=>?_,I2.bs,Nat.le_trans I2.ok.bsz I2.sz,fun b o e hb=>?_,fun b hb z=>?_,I2.stack,I2.stkFree⟩
  ·show s2.heap.objs.size≤C
   omega
  ·exact I2.ok.inj x y c (c1 x c h1) (c1 y c h2)
  ·have:=fl b hb
   refine⟨by show @Ne Nat b C; omega,fun x c e z=>?_⟩
   exact(f2 b hb).2.2.2.2.1 x c (c1 x c e) z
  ·obtain⟨f0,f1,ff,f3,_⟩:=f2 b hb
   rcases f3 with z | z
   ·exact I2.ok.noex b o e z
   ·have q1:@LT.lt Nat _ b X.base.objs.size:=Heap.lt_size e
    have q2:=I2.ok.bsz
    have q3:@LE.le Nat _ X.s₀.heap.objs.size b:=z
    omega
  ·obtain⟨f0,f1,ff,_⟩:=f2 b hb
   exact(List.mem_cons.mp (I2.stkSub b z)).elim f1 ff
 refine⟨ok,ho,by rw [hg]; exact I2.bare,Un.kept old,?_,fun x c e=>?_,?_,fun x c e=>?_,fun p hp=>?_,I2.hok.kept old,?_⟩
 ·obtain⟨m,hn⟩:=hns
  refine⟨m,hn,fun i x v e1 e2 e3=>?_⟩
  have e2':(List.replicate n (none:Option V)++σ)[i]? = some (some v):=e2
  have e1':N'[i]? = some x:=e1
  by_cases hi:i<n
  ·rw [List.getElem?_append_left (by simpa using hi),List.getElem?_replicate] at e2'
   split at e2' <;> cases e2'
  ·obtain⟨j,rfl⟩:∃ j,i=n+j:=⟨i-n,by omega⟩
   rw [List.getElem?_append_right (by simp)] at e2'
   simp only [List.length_replicate,Nat.add_sub_cancel_left] at e2'
   have hj:j<X.N.length:=by rw [← I2.len]; exact(List.getElem?_eq_some_iff.mp e2').1
   have lk:=List.all_eq_true.mp S.look j (List.mem_range.mpr hj)
   rw [e1'] at lk
   have vis:scope.names.lookup x=some .local∨scope.names.lookup x=some .cell∨scope.names.lookup x=some .free:=by
    have e3':(cxComp X N' scope cl C fp s2 H2).env.kindOf x=some .local∨(cxComp X N' scope cl C fp s2 H2).env.kindOf x=some .cell∨(cxComp X N' scope cl C fp s2 H2).env.kindOf x=some .free:=e3
    rcases e3' with z | z | z
    ·rw [kOf x] at z
     cases e:scope.names.lookup x with
     | none=>rw [e] at z; cases z
     | some kd=>
      rw [e] at z
      simp only [Option.map_some] at z
      split at z
      ·cases z
      ·cases z; exact .inl rfl
    ·exact .inr (.inr (kfree x (.inl z)))
    ·exact .inr (.inr (kfree x (.inr z)))
   have lk2:scope.names.lookup x=some .free∧X.N[j]? = some x:=by
    simp only [Bool.or_eq_true,Bool.and_eq_true,Bool.not_eq_true',Bool.or_eq_false_iff,beq_iff_eq,beq_eq_false_iff_ne] at lk
    rcases lk with z | z
    ·exact z
    ·rcases vis with q | q | q
     ·exact absurd q z.1.1
     ·exact absurd q z.1.2
     ·exact absurd q z.2
   obtain⟨m0,hn0,hl0⟩:=I2.loc
   have vX:Vis X.env.scope x:=by
    rcases S.free _ (PySem.mem_of_lookup lk2.1) rfl with z | z
    ·exact .inr (.inl z)
    ·exact .inr (.inr z)
   obtain⟨u,r,l⟩:=hl0 j x v lk2.2 e2' vX
   refine⟨u,r,.inr ⟨?_,?_⟩⟩
   ·rw [kOf x,lk2.1]
    simp only [Option.map_some]
    split
    ·exact .inl rfl
    ·exact .inr rfl
   ·obtain⟨c,hc⟩:=hasC x lk2.1
    refine⟨c,hc,?_⟩
    rcases l with ⟨kl,_⟩ | ⟨_,c',hc',z⟩
    ·rcases S.free _ (PySem.mem_of_lookup lk2.1) rfl with q | q <;> (rw [kl] at q; cases q)
    ·have:=c1 x c hc
     rw [hc'] at this; cases this
     obtain⟨oc,hoc,hdc⟩:=z
     exact⟨oc,old _ _ hoc,hdc⟩
 ·obtain⟨v,oc,hoc,hdc⟩:=I2.cell x c (c1 x c e)
  exact⟨v,oc,old _ _ hoc,hdc⟩
 ·exact hH C (by omega)
 ·exact I2.freeC x c (c1 x c e)
 ·have e:p=(D,{cls:=.type "list",data:=.seq us.toArray k}):=by simpa [cxComp] using hp
  subst e
  refine⟨hd,hH D (by omega),by show @Ne Nat D C; omega,fun z=>?_,fun v z=>by cases z⟩
  have:=frl D z
  omega
 ·show (List.replicate n none++σ).length=N'.length
  rw [List.length_append,List.length_replicate,S.len,I2.len]
def CompOk (n:Nat) (J:It) (g:TG) (te:TE) (σ:St) (H:Hp) (Q:VK):Prop:=
 ∃ W:Nat→Nat→List V→St→Hp→Prop,(∃ m,W 0 m [] (List.replicate n none++σ) H)∧∀ i m ys σ' H,W i m ys σ' H→
  (J.stop i H∧∀ D,H D=none→Q (.ref D) (upd H D (.lst ys)))∨
  (J.go i H∧ys.length<sizeLine∧∀ x H',J.yld i H x H'→g x σ' H' fun σ2 H2=>∃ N:VK,te σ2 H2 N∧∀ v H3,N v H3→∃ m',m'<m∧W (i+1) m' (ys++[v]) σ2 H3)
abbrev InBlock (α:Type):=List (Str×Addr)→Addr→List Addr→Shared→Hp→α
def tComp (n:Nat) (wi:TI) (g:InBlock TG) (te:InBlock TE):TE:=fun σ H Q=>wi σ H fun J H1=>∀ cl C ex s Hc,CompOk n J (g cl C ex s Hc) (te cl C ex s Hc) σ H1 Q
theorem comp_block {it:Addr} {fp:List Addr} {tn:Nat→Heap→Prop} {J:It} {g:InBlock TG} {te:InBlock TE} {Q:VK} {E:Value→Shared→Prop}
  (hE:∀ v s,¬ X.xe v s) (hc:X.calm=true) (S:CompScope n N' X scope) (c1:∀ x c,cl.lookup x=some c→X.env.cells.lookup x=some c) (c2:∀ x∈scope.names,x.2=.free→∃ c,cl.lookup x.1=some c)
  (I2:Inv X pins σ H2 s2) (T:Turn X.prog X.w X.K tg J fp it tn) (st2:tn 0 s2.heap) (f2:∀ b∈fp,FpOk X pins H2 b)
  (hg:∀ cl C ex s H,PG (cxComp X N' scope cl C ex s H) tg (g cl C ex s H)) (he:∀ cl C ex s H,PE (cxComp X N' scope cl C ex s H) elt (te cl C ex s H))
  (cok:∀ cl C ex s Hc,CompOk n J (g cl C ex s Hc) (te cl C ex s Hc) σ H2 Q) :
  wpAny (model X.prog X.w) X.A (newList []) (fun acc s3=>wpAny (model X.prog X.w) X.A (newFunctionEnv scope X.env.globals cl [] X.env.qual none .none (some X.env)) (fun cenv s4=>
   codeAny (model X.prog X.w) X.A (.compStart (.ListComp elt [⟨tg,iter,[],0⟩] scope pos) 0 (.ref it) acc {cenv with scope:=relabel scope X.env})
    (fun r s'=>match r with | .ok _=>CompBack X pins σ Q acc cenv.locals s' | .error _=>False) s4) E s3) E s2:=by
 have fl:∀ b∈fp,@LT.lt Nat _ b s2.heap.objs.size:=fun b hb=>by
  obtain⟨o,e,_⟩:=T.obj _ _ st2 b hb
  exact Heap.lt_size e
 have frl:∀ b∈frs X.stack,@LT.lt Nat _ b s2.heap.objs.size:=fun b hb=>by
  obtain⟨_,o,ho,_⟩:=I2.stack.mem hb
  exact Heap.lt_size ho
 have celll:∀ x c,X.env.cells.lookup x=some c→@LT.lt Nat _ c s2.heap.objs.size:=fun x c e=>by
  obtain⟨v,q⟩:=I2.cell x c e
  exact q.lt
 refine wpAny_newObj_type (wpAny_newFunctionEnv S.cell (by intro y hy; simp at hy) (fun h1 hns1 hsb1=>?_) S.kind)
 dsimp only at hns1 hsb1 ⊢
 generalize hH2:s2.heap.push {cls:=.type "list",dict:=none,data:=.seq ([]:List Value).toArray}=G at hns1 hsb1 ⊢
 have hC:@Eq Nat G.objs.size (s2.heap.objs.size+1):=by rw [← hH2,Heap.size_push]
 have hDC:s2.heap.objs.size≠G.objs.size:=by show @Ne Nat _ _; omega
 have below:∀ b,@LT.lt Nat _ b s2.heap.objs.size→b≠G.objs.size∧b≠s2.heap.objs.size:=fun b hb=>⟨by show @Ne Nat _ _; omega,Nat.ne_of_lt hb⟩
 have old:∀ b o,s2.heap.get? b=some o→h1.get? b=some o:=fun b o e=>hsb1.extBut b o (below b (Heap.lt_size e)).1 (Heap.get?_push_of_some _ (hH2▸Heap.get?_push_of_some _ e))
 have hacc:h1.get? s2.heap.objs.size=some {cls:=.type "list",data:=.seq ([]:List Value).toArray 0}:=hsb1.extBut _ _ hDC (Heap.get?_push_of_some _ (hH2▸Heap.get?_push_size _ rfl))
 have hst1:tn 0 h1:=T.keep _ _ _ st2 fun b hb o e=>old b o e
 let X':=cxComp X N' scope cl G.objs.size fp s2 H2
 obtain⟨W,⟨m0,w0⟩,turn⟩:=cok cl G.objs.size fp s2 H2
 have hXe:X'.xe=X.xe:=rfl
 have stat:∀ {H':Hp} {ps:List (Addr×Obj)},(∀ b∈fp,H' b=none)→(∀ p∈ps,p.1=s2.heap.objs.size)→∀ b∈fp,FpOk X' ps H' b:=fun {H' ps} hn hp b hb=>by
  obtain⟨f0,f1,ff,f3,f4,f5⟩:=f2 b hb
  refine⟨hn b hb,(below b (fl b hb)).1,fun z=>?_,.inl hb,fun x c e z=>?_,fun p hp' z=>?_⟩
  ·exact(List.mem_cons.mp (I2.stkSub b z)).elim f1 ff
  ·exact f4 x c (c1 x c e) z
  ·have e:p.1=s2.heap.objs.size:=hp p (by simpa [X',cxComp] using hp')
   exact(below b (fl b hb)).2 (z.symm.trans e)
 have loop:∀ s3:Shared,s3={s2 with heap:=h1,toks:=s2.toks+([]:List (Str×Value)).length}→
   codeAny (model X.prog X.w) X.A (.compLoop (.ListComp elt [⟨tg,iter,[],0⟩] scope pos) 0 (.ref it) (.ref s2.heap.objs.size) (compEnvC scope cl G.objs.size X.env))
    (fun r s'=>match r with | .ok _=>CompBack X pins σ Q (.ref s2.heap.objs.size) G.objs.size s' | .error _=>False) s3:=by
  rintro s3 rfl
  have I3:=comp_inv (us:=[]) (k:=0) (s':={s2 with heap:=h1,toks:=s2.toks+([]:List (Str×Value)).length}) S c1 c2 I2 f2 fl rfl hC rfl rfl old ⟨_,hns1⟩ hacc
  refine codeAny_compLoop_any (fun m s'=>∃ i ys us k σ' H',Inv X' [(s2.heap.objs.size,{cls:=.type "list",data:=.seq (us:List Value).toArray k})] σ' H' s'∧Vals ys us∧tn i s'.heap∧(∀ b∈fp,H' b=none)∧ys.length≤sizeLine∧W i m ys σ' H') ?_ m0
   ⟨0,[],[],0,_,H2,I3,.nil,hst1,fun b hb=>(f2 b hb).1,Nat.zero_le _,w0⟩
  rintro m s' ⟨i,ys,us,k,σ',H',I',rv,st',fr',hlen,w'⟩
  rcases turn i m ys σ' H' w' with ⟨stop,q⟩ | ⟨go,hlt,step⟩
  ·refine thn (T.done X' rfl rfl rfl hc i _ s' σ' H' _ I' (stat fr' (by simp)) st' stop) fun r s4 ⟨hr,I4⟩=>?_
   subst hr
   show CompBack X pins σ Q (.ref s2.heap.objs.size) G.objs.size s4
   obtain⟨m1,hn1,_⟩:=I4.loc
   obtain⟨pD,nD,_,_,_⟩:=I4.pin (s2.heap.objs.size,{cls:=.type "list",data:=.seq us.toArray k}) (List.mem_append_right _ (by simp))
   have nD:H' s2.heap.objs.size=none:=nD
   have pD:s4.heap.get? s2.heap.objs.size=some {cls:=.type "list",data:=.seq us.toArray k}:=pD
   have hok:HOk X.prog X.w (upd H' s2.heap.objs.size (.lst ys)) s4.heap:=fun b u e=>by
    by_cases hb:b=s2.heap.objs.size
    ·subst hb
     rw [upd_same] at e; cases e
     exact⟨hlen,us,k,rv,pD⟩
    ·rw [upd_ne hb] at e
     exact(I4.hok b u e).stay (fun _ _ _ q=>q) (fun c q=>by rw [upd_ne (ne_of_none q nD)]; exact q) fun c xs q=>by rw [upd_ne (ne_of_none q nD)]; exact q
   have un:Un (frs X.stack) fp H2 (upd H' s2.heap.objs.size (.lst ys)) s2.heap s4.heap:=by
    have u0:=I4.base
    refine⟨u0.keep,u0.slot,fun b o e n hx=>?_,u0.there,fun b xs e=>?_,fun b o xs e=>?_,fun b ps e=>?_⟩
    ·rw [upd_ne (below b (Heap.lt_size e)).2]; exact u0.free b o e n hx
    ·have q:=u0.tups b xs e
     rw [upd_ne (ne_of_none q nD)]; exact q
    ·have q:=u0.frzs b o xs e
     rw [upd_ne (ne_of_none q nD)]; exact q
    ·obtain⟨more,q⟩:=u0.tbls b ps e
     exact⟨more,by rw [upd_ne (ne_of_none q nD)]; exact q⟩
   have IX:Inv X pins σ (upd H' s2.heap.objs.size (.lst ys)) s4:=I2.call' (ch:=fp) I4.os un hok I4.bare fun b hb=>by
    obtain⟨f0,f1,ff,f3,f4,f5⟩:=f2 b hb
    exact⟨f3,f1,f4,f5⟩
   have hG0:H' G.objs.size=none:=I4.free
   refine⟨s2.heap.objs.size,_,m1,rfl,IX,hn1,⟨by rw [upd_ne (Ne.symm hDC)]; exact hG0,fun z=>?_,fun z=>?_,.inr ?_,fun x c e z=>?_,fun p hp z=>?_⟩,q _ nD⟩
   ·have q1:@LT.lt Nat _ X.env.locals s2.heap.objs.size:=I2.lt
    have q2:@Eq Nat G.objs.size X.env.locals:=z
    omega
   ·have z':G.objs.size∈frs X.outer:=z
    obtain⟨_,o,ho,_⟩:=I2.funs.mem z'
    have q1:@LT.lt Nat _ G.objs.size s2.heap.objs.size:=Heap.lt_size ho
    omega
   ·have q1:=I2.sz
    show @LE.le Nat _ X.s₀.heap.objs.size G.objs.size
    omega
   ·have q1:=celll x c e
    have q2:@Eq Nat c G.objs.size:=z
    omega
   ·have q1:@LT.lt Nat _ p.1 s2.heap.objs.size:=Heap.lt_size (I2.pin p hp).1
    have q2:@Eq Nat p.1 G.objs.size:=z
    omega
  ·refine thn (T.item X' rfl rfl rfl hc i _ s' σ' H' _ I' (stat fr' (by simp)) st' go) fun r s4 ⟨u,hr,h4⟩=>?_
   subst hr
   show wpAny _ _ (letOwnedTupleGo tg (.ref it) u) _ _ s4
   refine thn h4 fun _ s5 ⟨x,H5,I5,r5,y5,st5,fr5⟩=>?_
   have I5':=I5.pinned (stat fr5 (by simp)) (T.obj _ _ st5)
   have w1:=hg cl G.objs.size fp s2 H2 _ s5 σ' H5 x u _ I5' r5 (step x H5 y5)
   refine wpAny_mono w1 (fun _ s6 ⟨σ6,H6,I6,q6⟩=>?_) fun v s hv=>absurd hv (hE v s)
   obtain⟨NN,q6,hNN⟩:=q6
   have w2:=he cl G.objs.size fp s2 H2 _ s6 σ6 H6 _ I6 q6
   refine wpAny_mono w2 (fun y s7 ⟨v,H7,I7,r7,q7⟩=>?_) fun v s hv=>absurd hv (hE v s)
   obtain⟨m',hm',w7⟩:=hNN v H7 q7
   have pinD:=I7.pin (s2.heap.objs.size,{cls:=.type "list",data:=.seq us.toArray k}) (List.mem_append_right _ (List.mem_append_left _ (by simp)))
   obtain⟨pD,nD,lD,fD,_⟩:=pinD
   refine append_at (hsz:=by rw [List.size_toArray,← rv.length]; exact hlen) pD fun h8 hs8 hD8=>?_
   have nD:H7 s2.heap.objs.size=none:=nD
   have I8:Inv X' (pinsAt fp s5.heap) σ6 H7 {s7 with heap:=h8}:=by
    refine(I7.pins_of (pins':=pinsAt fp s5.heap) fun p hp=>I7.pin p (List.mem_append_right _ (List.mem_append_right _ hp))).turned (t':=s7.toks) (it:=s2.heap.objs.size) (fun b o hb e=>(hs8.2 b hb).trans e) nD lD (.inr (Nat.le_refl _)) (fun x c e z=>?_) fun p hp z=>?_
    ·have q1:=celll x c (c1 x c e)
     have q2:@Eq Nat c s2.heap.objs.size:=z
     omega
    ·have hp':p∈pinsAt fp s5.heap:=by simpa [X',cxComp] using hp
     have q1:=fl p.1 (of_pinsAt hp').1
     have q2:@Eq Nat p.1 s2.heap.objs.size:=z
     omega
   have I9:Inv X' [(s2.heap.objs.size,{cls:=.type "list",data:=.seq (us++[y]).toArray (k+1)})] σ6 H7 {s7 with heap:=h8}:=I8.pins_of fun p hp=>by
    have e:p=(s2.heap.objs.size,{cls:=.type "list",data:=.seq (us++[y]).toArray (k+1)}):=by simpa using hp
    subst e
    refine⟨by rw [hD8,List.push_toArray],nD,lD,fD,fun v z=>by cases z⟩
   refine⟨m',hm',i+1,ys++[v],us++[y],k+1,σ6,H7,I9,rv.append (.cons r7 .nil),T.keep _ _ _ st5 fun b hb o e=>?_,fun b hb=>?_,by rw [List.length_append,List.length_singleton]; omega,w7⟩
   ·exact(I8.pin (b,o) (List.mem_append_right _ (mem_pinsAt hb e))).1
   ·obtain⟨o,e,d⟩:=T.obj _ _ st5 b hb
    exact(I8.pin (b,o) (List.mem_append_right _ (mem_pinsAt hb e))).2.1
 exact codeAny_compStart_list (loop _ rfl) (T.self _ 0 _ _ _ hst1 (loop _ rfl))
theorem pe_comp {wi:TI} {g:InBlock TG} {te:InBlock TE} (hE:∀ v s,¬ X.xe v s) (hc:X.calm=true) (S:CompScope n N' X scope) (hi:PI X tg iter wi)
  (hg:∀ cl C ex s H,PG (cxComp X N' scope cl C ex s H) tg (g cl C ex s H)) (he:∀ cl C ex s H,PE (cxComp X N' scope cl C ex s H) elt (te cl C ex s H))
  (hs:∀ x,foldedSetIterable iter X.env x=pure x:=by intro _; rfl):PE X (.ListComp elt [⟨tg,iter,[],0⟩] scope pos) (tComp n wi g te):=by
 intro pins s σ H Q I h
 rw [eval_ListComp]
 obtain⟨cl,hcl,c1,c2⟩:=closure_ok (scope:=scope) (env:=X.env) fun x hx hf=>I.ok.has x.1 (S.free x hx hf)
 refine wpAny_comprehension_free (use:=none) rfl hs hcl S.kind S.names (thn (hi pins s σ H _ I h) fun v s1 h1=>thn h1 fun itv s2 h2=>?_)
 obtain⟨it,fp,tn,J,H2,e,I2,T,st2,f2,cok⟩:=h2
 subst e
 refine wpAny_mono (comp_block (pos:=pos) (iter:=iter) (Q:=Q) (E:=X.xe) hE hc S c1 c2 I2 T st2 f2 hg he cok) (fun acc s3 h3=>wpAny_mono h3 (fun cenv s4 h4=>codeAny_mono h4 fun r s' hr=>?_) fun _ _ z=>z) fun _ _ z=>z
 cases r with
 | error e=>exact False.elim hr
 | ok f=>
  obtain⟨D,H',m,rfl,I',hn,⟨f0,f1,ff,f3,f4,f5⟩,q⟩:=hr
  refine⟨m,hn,fun h' hs'=>⟨.ref D,H',?_,rfl,q⟩⟩
  exact I'.turned (t':=s'.toks) (fun b o hb e=>(hs'.2 b hb).trans e) f0 f1 f3 f4 f5
theorem ps_setComp {wi:TI} {g:InBlock TG} {te:InBlock TE} {i:Nat} {x:Str} {pos' spos:Pos} (hN:X.N.Nodup) (hi0:X.N[i]? = some x) (hx:Loc X.env.scope x)
  (hsw:swapsWith (.ListComp elt [⟨tg,iter,[],0⟩] scope pos) (some (.Name x pos')) spos.line X.env=pure true)
  (hE:∀ v s,¬ X.xe v s) (hc:X.calm=true) (S:CompScope n N' X scope) (hi:PI X tg iter wi)
  (hg:∀ cl C ex s H,PG (cxComp X N' scope cl C ex s H) tg (g cl C ex s H)) (he:∀ cl C ex s H,PE (cxComp X N' scope cl C ex s H) elt (te cl C ex s H))
  (hs:∀ x,foldedSetIterable iter X.env x=pure x:=by intro _; rfl) (hf:X.fn x=true∨X.env.scope.names.lookup x=some .local:=by first | exact .inl rfl | exact .inr rfl | assumption) :
  PS X (.Assign [.Name x pos'] (.ListComp elt [⟨tg,iter,[],0⟩] scope pos) spos) (tAsg (tComp n wi g te) (gName i)):=by
 intro pins s σ H D I h
 rw [exec_Assign_Name_used _ _ _ _ hsw]
 refine wpAny_bind (wpAny_standAt (wpAny_bind ?_))
 obtain⟨cl,hcl,c1,c2⟩:=closure_ok (scope:=scope) (env:=X.env) fun x hx hf=>I.ok.has x.1 (S.free x hx hf)
 show wpAny _ _ (do let _ ← comprehension (.ListComp elt [⟨tg,iter,[],0⟩] scope pos) scope X.env _ (newList []) false (eval iter X.env) (some (assign (.Name x pos') X.env))) _ _ s
 refine wpAny_bind (wpAny_mono (wpAny_comprehension_free (use:=some (assign (.Name x pos') X.env)) (Q:=fun _ s'=>SP X pins D .next s') rfl hs hcl S.kind S.names
  (thn (hi pins s σ H _ I h) fun v s1 h1=>thn h1 fun itv s2 h2=>?_)) (fun _ s' hq=>wpAny_pure (wpAny_pure hq)) fun _ _ e=>e)
 obtain⟨it,fp,tn,J,H2,e,I2,T,st2,f2,cok⟩:=h2
 subst e
 refine wpAny_mono (comp_block (pos:=pos) (iter:=iter) (E:=X.xe) (Q:=fun x H1=>gName i x σ H1 D.nx) hE hc S c1 c2 I2 T st2 f2 hg he cok) (fun acc s3 h3=>wpAny_mono h3 (fun cenv s4 h4=>codeAny_mono h4 fun r s' hr=>?_) fun _ _ z=>z) fun _ _ z=>z
 cases r with
 | error e=>exact False.elim hr
 | ok f=>
  obtain⟨Dl,H',m,rfl,I',hn,⟨f0,f1,ff,f3,f4,f5⟩,q⟩:=hr
  show wpAny _ _ (assign (.Name x pos') X.env (.ref Dl)) _ _ s'
  refine wpAny_assign_Name (store_ok2 I' hN hi0 hx (v:=.ref Dl) (u:=.ref Dl) rfl (fun s'' I'' hb=>?_) hf)
  obtain⟨a,sb,ha⟩:=hb
  have hCa:cenv.locals≠a:=by
   rcases ha with rfl | ha
   ·exact f1
   ·exact fun z=>f4 x a ha z.symm
  refine⟨m,hn.sameBut sb hCa,fun h' hs'=>⟨_,H',?_,q⟩⟩
  exact I''.turned (t':=s''.toks) (fun b o hb e=>(hs'.2 b hb).trans e) f0 f1 f3 f4 f5
end
section
variable {X:Cx} {tg:Expr}
def Its (z:Str):It:=⟨fun i _=>i<z.cps.size,fun i H x H'=>H'=H∧∃ c,z.cps[i]? = some c∧x=.str ⟨#[c]⟩,fun i _=>z.cps.size≤i⟩
theorem turn_str {P:Program} {w:World} {K:PySem.W.Frag} {tg:Expr} {T:String} {t:Tok} (it:Addr) (z:Str)
  (hT:T="str_ascii_iterator"∨T="str_iterator") (W:∀ A:Around,A.handled=none→Walks P w A it [it] [it] z.cps.size (SignAt z) (fun i h=>h.IsStrIter it T z t i)) :
  Turn P w K tg (Its z) [it] it (fun i h=>h.IsStrIter it T z t i) where
 mem:=by simp
 obj:=fun i h st b hb=>by
  have e:b=it:=by simpa using hb
  subst e
  obtain⟨o,e,c,d⟩:=st
  exact⟨o,e,fun v z=>by rw [d] at z; cases z⟩
 keep:=fun i h h' st k=>by
  obtain⟨o,e,r⟩:=st
  exact⟨o,k it (by simp) o e,r⟩
 item:=by
  intro X hP hw hK hc i pins s σ H E I hf st hg
  subst hP hw hK
  obtain⟨f0,f1,f2,f3,f4,f5⟩:=hf it (by simp)
  refine(W _ (I.ok.hd hc)).item i s _ _ hg st fun v h' tk hv st' kk=>?_
  obtain⟨c,u,hcu,rfl⟩:=hv
  have I1:Inv X pins σ H {s with heap:=h',toks:=tk}:=I.turned (fun b o hb e=>kk b o (by simpa using hb) e) f0 f1 f3 f4 f5
  obtain⟨o,e,cc,d⟩:=id st'
  refine⟨_,rfl,go_of (s:={s with heap:=h',toks:=tk}) (n:=T) e cc d ?_ ⟨.str ⟨#[c]⟩,H,I1,⟨u,rfl⟩,⟨rfl,c,hcu,rfl⟩,st',fun b hb=>(hf b hb).1⟩⟩
  rcases hT with rfl | rfl <;> decide
 done:=by
  intro X hP hw hK hc i pins s σ H E I hf st hg
  subst hP hw hK
  obtain⟨f0,f1,f2,f3,f4,f5⟩:=hf it (by simp)
  have hg:z.cps.size≤i:=hg
  rcases hT with rfl | rfl
  ·exact wpAny_pyNext_ascii_end (I.ok.hd hc) st (by simp; omega) fun h' eb=>⟨rfl,I.turned (t':=s.toks) (fun b o hb e=>eb b o hb e) f0 f1 f3 f4 f5⟩
  ·exact wpAny_pyNext_wide_end (I.ok.hd hc) st (by simp; omega) fun h' eb=>⟨rfl,I.turned (t':=s.toks) (fun b o hb e=>eb b o hb e) f0 f1 f3 f4 f5⟩
 self:=fun A i s Q E st h=>by
  rcases hT with rfl | rfl
  ·exact wpAny_pyIter_striter_ascii st h
  ·exact wpAny_pyIter_striter_wide st h
def iStr (tl:TE):TI:=fun σ H R=>tl σ H fun x H1=>∃ z,x=.str z∧R (Its z) H1
theorem pi_str {l:Expr} {tl:TE} (hl:PE X l tl):PI X tg l (iStr tl):=by
 intro pins s σ H R I h
 refine thn (hl pins s σ H _ I h) fun v s1 ⟨x,H1,I1,r1,q1⟩=>?_
 obtain⟨z,e,q⟩:=q1
 subst e
 obtain⟨t,rfl⟩:=r1
 have fin:∀ (T:String) (o:Obj),(T="str_ascii_iterator"∨T="str_iterator")→(∀ A:Around,A.handled=none→Walks X.prog X.w A s1.heap.objs.size [s1.heap.objs.size] [s1.heap.objs.size] z.cps.size (SignAt z) (fun i h=>h.IsStrIter s1.heap.objs.size T z t i))→
   (s1.heap.push o).IsStrIter s1.heap.objs.size T z t 0→PIE X pins σ tg R (.ref s1.heap.objs.size) {s1 with heap:=s1.heap.push o}:=fun T o hT W st=>
  ⟨s1.heap.objs.size,[s1.heap.objs.size],_,_,H1,rfl,I1.kept (t':=s1.toks) fun b o e=>Heap.get?_push_of_some _ e,turn_str _ z hT W,st,fun b hb=>by
   have e:b=s1.heap.objs.size:=by simpa using hb
   subst e
   exact I1.fpOk (Nat.le_refl _) (I1.hok.fresh (Nat.le_refl _)),q⟩
 cases ha:z.cps.all (· < 128)
 ·exact wpAny_pyIter_wide ha (fin "str_iterator" _ (.inr rfl) (fun A hA=>Walks.strWide hA _ z t) ⟨_,Heap.get?_push_size _ rfl,rfl,rfl⟩)
 ·exact wpAny_pyIter_ascii ha (fin "str_ascii_iterator" _ (.inl rfl) (fun A hA=>Walks.strAscii hA _ z t) ⟨_,Heap.get?_push_size _ rfl,rfl,rfl⟩)
section forms
variable {J:It} {K:PySem.W.Frag} {a:Addr} {xs:List V} {te:TE} {σ:St} {H:Hp} {Q:VK}
theorem comp_it1 (n:Nat) (Pv:Nat→List V→Hp→Prop) (Vx:Nat→V→Prop) (h0:Pv 0 [] H) (hz:n≤sizeLine) (hgo:∀ i ys H,i<n→ys.length=i→Pv i ys H→J.go i H∧∀ x H',J.yld i H x H'→H'=H∧Vx i x)
  (hstop:∀ ys H,ys.length=n→Pv n ys H→J.stop n H)
  (hs:∀ i x ys H,i<n→Vx i x→ys.length=i→Pv i ys H→te (some x::σ) H fun v H3=>Pv (i+1) (ys++[v]) H3)
  (hd:∀ ys H,ys.length=n→Pv n ys H→∀ D,H D=none→Q (.ref D) (upd H D (.lst ys))):CompOk 1 J (gName 0) te σ H Q:=by
 refine⟨fun i m ys σ' H=>m=n-i∧i≤n∧ys.length=i∧(∃ o,σ'=o::σ)∧Pv i ys H,⟨n,by simp,Nat.zero_le _,rfl,⟨none,rfl⟩,h0⟩,?_⟩
 rintro i m ys σ' H ⟨rfl,hi,hy,⟨o,rfl⟩,p⟩
 by_cases hlt:i<n
 ·obtain⟨g1,g2⟩:=hgo i ys H hlt hy p
  refine .inr ⟨g1,by omega,fun x H' y=>?_⟩
  obtain⟨e,hx⟩:=g2 x H' y
  subst e
  exact⟨fun v H3=>Pv (i+1) (ys++[v]) H3,hs i x ys _ hlt hx hy p,fun v H3 h3=>⟨n - (i+1),by omega,rfl,hlt,by simp [hy],⟨_,rfl⟩,h3⟩⟩
 ·obtain rfl:i=n:=by omega
  exact .inl ⟨hstop ys H hy p,hd ys H hy p⟩
theorem go_list {i:Nat} (hq:SqL K H a xs) (hlt:i<xs.length):(Itl K a).go i H∧∀ x H',(Itl K a).yld i H x H'→H'=H∧xs[i]? = some x:=
 ⟨⟨xs,xs[i],hq,by simp [hlt]⟩,fun x H' ⟨e,y⟩=>⟨e,y xs hq⟩⟩
theorem stop_list (hq:SqL K H a xs):(Itl K a).stop xs.length H:=⟨xs,hq,Nat.le_refl _⟩
theorem go_tup {i:Nat} (hq:SqT K H a xs) (hlt:i<xs.length):(Itt K a).go i H∧∀ x H',(Itt K a).yld i H x H'→H'=H∧xs[i]? = some x:=
 ⟨⟨xs,xs[i],hq,by simp [hlt]⟩,fun x H' ⟨e,y⟩=>⟨e,y xs hq⟩⟩
theorem stop_tup (hq:SqT K H a xs):(Itt K a).stop xs.length H:=⟨xs,hq,Nat.le_refl _⟩
theorem go_rng {lo:Int} {n i:Nat} (hlt:i<n):(Itr lo n).go i H∧∀ x H',(Itr lo n).yld i H x H'→H'=H∧x=.int (lo+i):=⟨hlt,fun _ _ y=>y⟩
theorem stop_rng {lo:Int} {n:Nat}:(Itr lo n).stop n H:=Nat.le_refl n
theorem go_str {z:Str} {i:Nat} (hlt:i<z.cps.size):(Its z).go i H∧∀ x H',(Its z).yld i H x H'→H'=H∧∃ c,z.cps[i]? = some c∧x=.str ⟨#[c]⟩:=⟨hlt,fun _ _ y=>y⟩
theorem stop_str {z:Str}:(Its z).stop z.cps.size H:=Nat.le_refl z.cps.size
end forms
theorem call_allB (hc:X.calm=true):CallR X (.builtin "all") (fun xs H Q=>∃ (p:Addr) (bs:List Bool),xs=[.ref p]∧SqL X.K H p (bs.map V.bl)∧Q (.bl (bs.all id)) H):=by
 intro pins s σ H xs us Q I r h
 obtain⟨p,bs,rfl,hq,q⟩:=h
 obtain⟨u,rfl,rx⟩:=vals1 r
 cases rx
 obtain⟨its,r',pl,hz⟩:=I.list hq
 have hlen:=r'.length
 rw [List.length_map] at hlen
 have hit:∀ (i:Nat) (v:Value),its[i]? = some v→∃ b,bs[i]? = some b∧v=Value.bool b:=fun i v e=>by
  have hi:i<its.length:=(List.getElem?_eq_some_iff.mp e).1
  have hb:i<bs.length:=by omega
  obtain⟨u,hu,ru⟩:=r'.get (i:=i) (x:=V.bl bs[i]) (by simp [hb])
  rw [e] at hu; cases hu
  exact⟨bs[i],by simp [hb],ru⟩
 refine call_all_walk (wpAny_pyIter_list pl.isList ?_)
 have hp:p<s.heap.objs.size:=by obtain⟨o,n,e,_⟩:=pl; exact Heap.lt_size e
 refine⟨s.heap.objs.size,[s.heap.objs.size,p],[s.heap.objs.size],its.toArray.size,_,_,fun i=>bs.getD i false,rfl,Walks.list (by simpa using I.ok.hd hc) _ p (Nat.ne_of_lt hp) its.toArray,⟨⟨_,Heap.get?_push_size _ rfl,rfl,rfl⟩,pl.isList.push _⟩,fun i v s Q E hP hQ=>?_,fun h' tk kk=>?_⟩
 ·obtain⟨b,hb,rfl⟩:=hit i v (by simpa using hP)
  have e:bs.getD i false=b:=by simp [List.getD,hb]
  have hQ':Q (bs.getD i false) s:=hQ
  rw [e] at hQ'
  exact wpAny_truthy_bool hQ'
 ·have e:((List.range its.toArray.size).all fun i=>bs.getD i false)=bs.all id:=by
   rw [List.size_toArray,← hlen]
   rw [Bool.eq_iff_iff,List.all_eq_true,List.all_eq_true]
   constructor
   ·intro h b hb
    obtain⟨i,hi,rfl⟩:=List.mem_iff_getElem.mp hb
    have:=h i (List.mem_range.mpr hi)
    simpa [List.getD,hi] using this
   ·intro h i hi
    have hi':=List.mem_range.mp hi
    have:=h bs[i] (List.getElem_mem hi')
    simpa [List.getD,hi'] using this
  refine⟨.bl (bs.all id),H,?_,by rw [e]; rfl,q⟩
  exact I.kept fun b o eb=>kk b o (fun z=>Nat.ne_of_lt (Heap.lt_size eb) (by simpa using z)) (Heap.get?_push_of_some _ eb)
end
end L2
set_option maxHeartbeats 8000000
namespace L2
open PySem PySem.Spec PyProof.Rows
def stepS (σ:List Str) (v:Str):List Str:=if σ.any (· == v) then σ else σ++[v]
def metS (val:Nat→Str) (i:Nat):List Str:=((List.range i).map val).foldl stepS []
theorem metS_succ (val:Nat→Str) (i:Nat):metS val (i+1)=stepS (metS val i) (val i):=by
 unfold metS; rw [List.range_succ,List.map_append,List.foldl_append]; rfl
theorem metS_length_le (val:Nat→Str):∀ i,(metS val i).length≤i
 | 0=>Nat.le_refl _
 | i+1=>by
  rw [metS_succ]; unfold stepS
  have ih:=metS_length_le val i
  split
  ·omega
  ·rw [List.length_append,List.length_singleton]; omega
theorem stepS_any (σ:List Str) (v k:Str):(stepS σ v).any (· == k)=(σ.any (· == k)||decide (k=v)):=by
 unfold stepS
 by_cases h:σ.any (· == v)=true
 ·rw [if_pos h]
  by_cases e:k=v
  ·subst e; rw [h]; simp
  ·simp [e]
 ·rw [if_neg h,List.any_append]
  by_cases e:k=v
  ·subst e; simp
  ·have hb:(v==k)=false:=by
    rw [beq_eq_false_iff_ne]; exact fun h'=>e h'.symm
   simp [hb,e]
theorem stepS_length (σ:List Str) (v:Str):(stepS σ v).length=if σ.any (· == v) then σ.length else σ.length+1:=by
 unfold stepS; split <;> simp
section
variable {prog:Program} {w:World} {A:Around} {R:Result→Shared→Prop} {I:Addr} {fp wr:List Addr} {G:Array GenState→Array GenState→Prop} {n:Nat} {P:Nat→Value→Prop} {St:Nat→Shared→Prop}
theorem set_loopS (W:WalksS prog w A.in1 I fp wr G n P St) (S:Addr) (hSf:S∉fp)
  (val:Nat→Str) (hval:∀ i v,P i v→∃ t,v=.str (val i) t) (hb:n+1<scanBound) :
  ∀ (k i:Nat) (s:Shared),n-i=k→i≤n→St i s→
   s.heap.SetOf (PySem.strKind prog w) S (fun k'=>(metS val i).any (· == k')) (metS val i).length→
   (∀ s',Moved (S::wr) G s s'→s'.heap.SetOf (PySem.strKind prog w) S (fun k'=>(metS val n).any (· == k')) (metS val n).length→R (.ok (.ret .none)) s')→
   codeAny (model prog w) A (.builtin "set.update.loop" ⟨[.ref S,.ref I],[]⟩) R s:=by
 have hSw:S∉wr:=fun h=>hSf (W.sub _ h)
 have hsub:∀ b∈wr,b∈S::wr:=fun b hb=>List.mem_cons_of_mem _ hb
 intro k
 induction k with
 | zero=>
  intro i s hk hi hst hS hR
  have hin:i=n:=by omega
  subst hin
  refine codeAny_builtin PyProof.Rows.F.entry_set_update_loop ?_
  rw [Around.under_plainId PyProof.Rows.F.plain_set_update_loop _]
  show wpAny _ A.in1 (pyNext (.ref I)>>=_) _ _ s
  refine wpAny_bind (W.done s _ _ hst fun s' hm=>?_)
  show wpAny _ A.in1 (ret Value.none) _ _ s'
  exact wpAny_pure (hR s' (hm.mono hsub) (by
   obtain⟨o,es,ep,t,ho,rest⟩:=hS
   exact⟨o,es,ep,t,hm.heap S _ hSw ho,rest⟩))
 | succ k ih=>
  intro i s hk hi hst hS hR
  have hlt:i<n:=by omega
  refine codeAny_builtin PyProof.Rows.F.entry_set_update_loop ?_
  rw [Around.under_plainId PyProof.Rows.F.plain_set_update_loop _]
  show wpAny _ A.in1 (pyNext (.ref I)>>=_) _ _ s
  refine wpAny_bind (W.item i s _ _ hlt hst fun v s' hP hst' hm=>?_)
  obtain⟨t,rfl⟩:=hval i v hP
  have hS':s'.heap.SetOf (PySem.strKind prog w) S (fun k'=>(metS val i).any (· == k')) (metS val i).length:=by
   obtain⟨o,es,ep,tb,ho,rest⟩:=hS
   exact⟨o,es,ep,tb,hm.heap S _ hSw ho,rest⟩
  have his:(PySem.strKind prog w).is (val i) (.str (val i) t)=true:=by show Value.isStrOf (val i) (.str (val i) t)=true; simp [Value.isStrOf]
  show wpAny _ A.in1 (holding [Value.str (val i) t] (setAdd S (.str (val i) t))>>=_) _ _ s'
  refine wpAny_bind (wpAny_holding ?_)
  unfold setAdd
  refine wpAny_holding ?_
  refine wpAny_bind ((PySem.strKind prog w).pyHash (k:=val i) his ?_)
  have hroom:(metS val i).length+1<scanBound:=by have:=metS_length_le val i; omega
  refine wpAny_setAddHashed_of (knd:=PySem.strKind prog w) (s:={s' with toks:=s'.toks+1}) his rfl hS' hroom fun h' hsb hS2=>?_
  have hSi:h'.SetOf (PySem.strKind prog w) S (fun k'=>(metS val (i+1)).any (· == k')) (metS val (i+1)).length:=
   SetOf_congr hS2 (fun k'=>by rw [metS_succ,stepS_any]) (by rw [metS_succ,stepS_length])
  refine wpAny_pure ⟨plainId_quiet PyProof.Rows.F.plain_set_update_loop _,ih (i+1) _ (by omega) hlt (W.frame _ s' _ _ hst' (Nat.le_succ _) fun b hb o e=>?_) hSi fun s'' hm'' hS''=>?_⟩
  ·rw [hsb.2 b (fun h:b=S=>hSf (by rw [← h]; exact hb))]; exact e
  ·refine hR s'' (Moved.trans W.gtrans ((hm.mono hsub).then_heap (Nat.le_succ _) fun b o hb e=>?_) hm'') hS''
   rw [hsb.2 b (fun h:b=S=>hb (by rw [h]; exact List.mem_cons_self))]; exact e
end
open Sem (wp)
theorem sub_list_setS:isSubtype (.type "list") (.type "set")=pure false:=by rw [isSubtype_type]; kernel_rfl
theorem sub_list_frozensetS:isSubtype (.type "list") (.type "frozenset")=pure false:=by rw [isSubtype_type]; kernel_rfl
theorem call_set_listS {prog:Program} {w:World} {A:Around} {E:Value→Shared→Prop} {s:Shared} {l:Addr} {items:Array Value} {val:Nat→Str} {Q:Value→Shared→Prop}
  (hh:A.handled=none) (hl:s.heap.IsList l items) (hi:∀ (i:Nat) (v:Value),items[i]? = some v→∃ t,v=.str (val i) t) (hb:items.size+1<scanBound)
  (h:∀ (h':Heap) (tk:Nat),h'.SetOf (PySem.strKind prog w) s.heap.objs.size (fun k'=>(metS val items.size).any (· == k')) (metS val items.size).length→
   (∀ b o,b<s.heap.objs.size→s.heap.get? b=some o→h'.get? b=some o)→Q (.ref s.heap.objs.size) {s with heap:=h',toks:=tk}) :
  wpAny (model prog w) A (call (.type "set") [.ref l]) Q E s:=by
 obtain⟨c,tl,hmro⟩:=PySem.F.called_set.mro
 have hmade:=PySem.F.called_set.made
 have hsub:=PySem.F.called_set.sub
 refine wpAny_call (codeAny_of_tree ?_)
 show wpAny _ _ (callAny (.type "set") _) _ _ _
 refine wpAny_pure ⟨Code.quiet_builtin _ (by decide +kernel),codeAny_builtin PySem.F.entry_type_call ?_⟩
 rw [Around.under_plain (weight_type_call_type "set" [.ref l] []) rfl]
 have h1:=PySem.F.called_set.notType
 have h2:=PySem.F.called_set.canCreate
 have hct:=PySem.F.typeCall_set_1 (.ref l)
 repeat (any_goals (first | assumption | wp_step))
 refine codeAny_mono (code_set_new_1 (.ref l) (E:=E) (Q₁:=fun obj s₁=>∃ led:Bool,obj=.ref s.heap.objs.size∧s₁={s with heap:=s.heap.push {cls:=.type "set",dict:=none,data:=.set #[] 0 (.fresh 0 0 led)}}) fun led=>⟨led,rfl,rfl⟩) fun r s₁ hr=>?_
 cases r with
 | error e=>exact hr
 | ok fl=>
  cases fl with
  | ret obj=>
   obtain⟨led,rfl,rfl⟩:=hr
   have hS:(s.heap.push {cls:=.type "set",dict:=none,data:=.set #[] 0 (.fresh 0 0 led)}).get? s.heap.objs.size=some {cls:=.type "set",dict:=none,data:=.set #[] 0 (.fresh 0 0 led)}:=Heap.get?_push_size _ rfl
   have hT:Shared.TypeIs {s with heap:=s.heap.push {cls:=.type "set",dict:=none,data:=.set #[] 0 (.fresh 0 0 led)}} (.ref s.heap.objs.size) "set":=⟨_,hS,rfl⟩
   have hli:=PySem.F.called_set.init.lookup
   have hbi:=PySem.F.called_set.init.bind (.ref s.heap.objs.size)
   repeat (any_goals (first | assumption | wp_step))
   refine codeAny_mono (codeAny_call_builtin (R:=wants (fun r s₂=>r=.none∧∃ h' tk,s₂={s with heap:=h',toks:=tk}∧
     h'.SetOf (PySem.strKind prog w) s.heap.objs.size (fun k'=>(metS val items.size).any (· == k')) (metS val items.size).length∧
     (∀ b o,b<s.heap.objs.size→s.heap.get? b=some o→h'.get? b=some o)) E) PySem.F.called_set.init.plain PySem.F.entry_set_init (check_set_init_1 hT ?_)) fun r₂ s₂ hr₂=>?_
   ·obtain⟨ol,hol,hcl,nl,hdl⟩:=hl
    obtain⟨ocls,odict,odata,oslots⟩:=ol
    simp only at hcl hdl
    subst hcl; subst hdl
    have hol':(s.heap.push {cls:=.type "set",dict:=none,data:=.set #[] 0 (.fresh 0 0 led)}).get? l=some {cls:=.type "list",dict:=odict,data:=.seq items nl,slots:=oslots}:=Heap.get?_push_of_some _ hol
    have hsls:=sub_list_setS
    have hslf:=sub_list_frozensetS
    have hne:(Value.type "list"==Value.type "dict")=false:=by decide
    have hl1:(s.heap.push {cls:=.type "set",dict:=none,data:=.set #[] 0 (.fresh 0 0 led)}).IsList l items:=⟨_,hol',rfl,nl,rfl⟩
    unfold Builtin.«set.__init__» noKeywords Builtin.Frozenset.updateFrom
    generalize hPI:pyIter=PI
    wp_walk
    subst hPI
    refine wpAny_pyIter_list hl1 ?_
    refine wpAny_bind (wpAny_runValue ?_)
    have hlS:l<s.heap.objs.size:=Heap.lt_size hol
    have hh3:A.in1.in1.in1.handled=none:=by simp [hh]
    have hneI:l≠(s.heap.push {cls:=.type "set",dict:=none,data:=.set #[] 0 (.fresh 0 0 led)}).objs.size:=by
     rw [Heap.size_push]; exact Nat.ne_of_lt (Nat.lt_succ_of_lt hlS)
    have hSf:s.heap.objs.size∉[(s.heap.push {cls:=.type "set",dict:=none,data:=.set #[] 0 (.fresh 0 0 led)}).objs.size,l]:=by
     rw [Heap.size_push]; simp only [List.mem_cons,List.mem_singleton,List.not_mem_nil,or_false,not_or]
     exact⟨Nat.ne_of_lt (Nat.lt_succ_self _),Nat.ne_of_gt hlS⟩
    refine set_loopS ((Walks.list hh3 _ l hneI items).toS) s.heap.objs.size
     hSf val hi hb (items.size-0) 0 _ (by omega) (Nat.zero_le _)
     ⟨⟨_,Heap.get?_push_size _ rfl,rfl,rfl⟩,(hl1.push _)⟩ ?hS0 ?hR
    case hS0=>
     have hget:((s.heap.push {cls:=.type "set",dict:=none,data:=.set #[] 0 (.fresh 0 0 led)}).push {cls:=.type "list_iterator",data:=.fields #[.ref l,.int 0 0]}).get? s.heap.objs.size
       = some {cls:=.type "set",dict:=none,data:=.set #[] 0 (.fresh 0 0 led)}:=Heap.get?_push_of_some _ hS
     exact PyProof.Rows.SetOf_congr ((PyProof.Rows.setObjOf_fresh (knd:=PySem.strKind prog w) led).setOf hget (by unfold scanBound; omega)) (fun _=>rfl) rfl
    case hR=>
     intro s' hm hS'
     obtain⟨h',g',d',tk',os'⟩:=s'
     have eg:g'=s.gens:=hm.gens
     have ed:d'=s.drawn:=hm.drawn
     have eo:os'=s.os:=hm.os
     subst eg; subst ed; subst eo
     show wpAny _ _ _ _ _ _
     refine wpAny_pure ?_
     show wpAny _ _ (ret Value.none) _ _ _
     refine wpAny_pure ⟨rfl,h',tk',rfl,hS',fun b o hb e=>?_⟩
     have hb1:b≠s.heap.objs.size:=Nat.ne_of_lt hb
     have hb2:b≠(s.heap.push {cls:=.type "set",dict:=none,data:=.set #[] 0 (.fresh 0 0 led)}).objs.size:=by
      rw [Heap.size_push]; exact Nat.ne_of_lt (Nat.lt_succ_of_lt hb)
     exact hm.heap b o (by simp only [List.mem_cons,List.mem_singleton,List.not_mem_nil,or_false,not_or]; exact⟨hb1,hb2⟩) (Heap.get?_push_of_some _ (Heap.get?_push_of_some _ e))
   ·cases r₂ with
    | error e=>exact hr₂
    | ok fl₂=>
     cases fl₂ with
     | ret r=>
      obtain⟨rfl,h',tk,rfl,hS',hk'⟩:=hr₂
      repeat (any_goals (first | assumption | wp_step))
      exact h _ _ hS' hk'
     | _=>exact hr₂.elim
  | _=>exact hr.elim
theorem sub_tuple_setS:isSubtype (.type "tuple") (.type "set")=pure false:=by rw [isSubtype_type]; kernel_rfl
theorem sub_tuple_frozensetS:isSubtype (.type "tuple") (.type "frozenset")=pure false:=by rw [isSubtype_type]; kernel_rfl
theorem call_set_tupleS {prog:Program} {w:World} {A:Around} {E:Value→Shared→Prop} {s:Shared} {l:Addr} {items:Array Value} {val:Nat→Str} {Q:Value→Shared→Prop}
  (hh:A.handled=none) (hl:s.heap.IsTuple l items) (hi:∀ (i:Nat) (v:Value),items[i]? = some v→∃ t,v=.str (val i) t) (hb:items.size+1<scanBound)
  (h:∀ (h':Heap) (tk:Nat),h'.SetOf (PySem.strKind prog w) s.heap.objs.size (fun k'=>(metS val items.size).any (· == k')) (metS val items.size).length→
   (∀ b o,b<s.heap.objs.size→s.heap.get? b=some o→h'.get? b=some o)→Q (.ref s.heap.objs.size) {s with heap:=h',toks:=tk}) :
  wpAny (model prog w) A (call (.type "set") [.ref l]) Q E s:=by
 obtain⟨c,tl,hmro⟩:=PySem.F.called_set.mro
 have hmade:=PySem.F.called_set.made
 have hsub:=PySem.F.called_set.sub
 refine wpAny_call (codeAny_of_tree ?_)
 show wpAny _ _ (callAny (.type "set") _) _ _ _
 refine wpAny_pure ⟨Code.quiet_builtin _ (by decide +kernel),codeAny_builtin PySem.F.entry_type_call ?_⟩
 rw [Around.under_plain (weight_type_call_type "set" [.ref l] []) rfl]
 have h1:=PySem.F.called_set.notType
 have h2:=PySem.F.called_set.canCreate
 have hct:=PySem.F.typeCall_set_1 (.ref l)
 repeat (any_goals (first | assumption | wp_step))
 refine codeAny_mono (code_set_new_1 (.ref l) (E:=E) (Q₁:=fun obj s₁=>∃ led:Bool,obj=.ref s.heap.objs.size∧s₁={s with heap:=s.heap.push {cls:=.type "set",dict:=none,data:=.set #[] 0 (.fresh 0 0 led)}}) fun led=>⟨led,rfl,rfl⟩) fun r s₁ hr=>?_
 cases r with
 | error e=>exact hr
 | ok fl=>
  cases fl with
  | ret obj=>
   obtain⟨led,rfl,rfl⟩:=hr
   have hS:(s.heap.push {cls:=.type "set",dict:=none,data:=.set #[] 0 (.fresh 0 0 led)}).get? s.heap.objs.size=some {cls:=.type "set",dict:=none,data:=.set #[] 0 (.fresh 0 0 led)}:=Heap.get?_push_size _ rfl
   have hT:Shared.TypeIs {s with heap:=s.heap.push {cls:=.type "set",dict:=none,data:=.set #[] 0 (.fresh 0 0 led)}} (.ref s.heap.objs.size) "set":=⟨_,hS,rfl⟩
   have hli:=PySem.F.called_set.init.lookup
   have hbi:=PySem.F.called_set.init.bind (.ref s.heap.objs.size)
   repeat (any_goals (first | assumption | wp_step))
   refine codeAny_mono (codeAny_call_builtin (R:=wants (fun r s₂=>r=.none∧∃ h' tk,s₂={s with heap:=h',toks:=tk}∧
     h'.SetOf (PySem.strKind prog w) s.heap.objs.size (fun k'=>(metS val items.size).any (· == k')) (metS val items.size).length∧
     (∀ b o,b<s.heap.objs.size→s.heap.get? b=some o→h'.get? b=some o)) E) PySem.F.called_set.init.plain PySem.F.entry_set_init (check_set_init_1 hT ?_)) fun r₂ s₂ hr₂=>?_
   ·obtain⟨ol,hol,hcl,nl,hdl⟩:=hl
    obtain⟨ocls,odict,odata,oslots⟩:=ol
    simp only at hcl hdl
    subst hcl; subst hdl
    have hol':(s.heap.push {cls:=.type "set",dict:=none,data:=.set #[] 0 (.fresh 0 0 led)}).get? l=some {cls:=.type "tuple",dict:=odict,data:=.seq items nl,slots:=oslots}:=Heap.get?_push_of_some _ hol
    have hsls:=sub_tuple_setS
    have hslf:=sub_tuple_frozensetS
    have hne:(Value.type "tuple"==Value.type "dict")=false:=by decide
    have hl1:(s.heap.push {cls:=.type "set",dict:=none,data:=.set #[] 0 (.fresh 0 0 led)}).IsTuple l items:=⟨_,hol',rfl,nl,rfl⟩
    unfold Builtin.«set.__init__» noKeywords Builtin.Frozenset.updateFrom
    generalize hPI:pyIter=PI
    wp_walk
    subst hPI
    refine wpAny_pyIter_tuple hl1 ?_
    refine wpAny_bind (wpAny_runValue ?_)
    have hlS:l<s.heap.objs.size:=Heap.lt_size hol
    have hh3:A.in1.in1.in1.handled=none:=by simp [hh]
    have hneI:l≠(s.heap.push {cls:=.type "set",dict:=none,data:=.set #[] 0 (.fresh 0 0 led)}).objs.size:=by
     rw [Heap.size_push]; exact Nat.ne_of_lt (Nat.lt_succ_of_lt hlS)
    have hSf:s.heap.objs.size∉[(s.heap.push {cls:=.type "set",dict:=none,data:=.set #[] 0 (.fresh 0 0 led)}).objs.size,l]:=by
     rw [Heap.size_push]; simp only [List.mem_cons,List.mem_singleton,List.not_mem_nil,or_false,not_or]
     exact⟨Nat.ne_of_lt (Nat.lt_succ_self _),Nat.ne_of_gt hlS⟩
    refine set_loopS ((Walks.tuple hh3 _ l hneI items).toS) s.heap.objs.size
     hSf val hi hb (items.size-0) 0 _ (by omega) (Nat.zero_le _)
     ⟨⟨_,Heap.get?_push_size _ rfl,rfl,rfl⟩,(hl1.push _)⟩ ?hS0 ?hR
    case hS0=>
     have hget:((s.heap.push {cls:=.type "set",dict:=none,data:=.set #[] 0 (.fresh 0 0 led)}).push {cls:=.type "tuple_iterator",data:=.fields #[.ref l,.int 0 0]}).get? s.heap.objs.size
       = some {cls:=.type "set",dict:=none,data:=.set #[] 0 (.fresh 0 0 led)}:=Heap.get?_push_of_some _ hS
     exact PyProof.Rows.SetOf_congr ((PyProof.Rows.setObjOf_fresh (knd:=PySem.strKind prog w) led).setOf hget (by unfold scanBound; omega)) (fun _=>rfl) rfl
    case hR=>
     intro s' hm hS'
     obtain⟨h',g',d',tk',os'⟩:=s'
     have eg:g'=s.gens:=hm.gens
     have ed:d'=s.drawn:=hm.drawn
     have eo:os'=s.os:=hm.os
     subst eg; subst ed; subst eo
     show wpAny _ _ _ _ _ _
     refine wpAny_pure ?_
     show wpAny _ _ (ret Value.none) _ _ _
     refine wpAny_pure ⟨rfl,h',tk',rfl,hS',fun b o hb e=>?_⟩
     have hb1:b≠s.heap.objs.size:=Nat.ne_of_lt hb
     have hb2:b≠(s.heap.push {cls:=.type "set",dict:=none,data:=.set #[] 0 (.fresh 0 0 led)}).objs.size:=by
      rw [Heap.size_push]; exact Nat.ne_of_lt (Nat.lt_succ_of_lt hb)
     exact hm.heap b o (by simp only [List.mem_cons,List.mem_singleton,List.not_mem_nil,or_false,not_or]; exact⟨hb1,hb2⟩) (Heap.get?_push_of_some _ (Heap.get?_push_of_some _ e))
   ·cases r₂ with
    | error e=>exact hr₂
    | ok fl₂=>
     cases fl₂ with
     | ret r=>
      obtain⟨rfl,h',tk,rfl,hS',hk'⟩:=hr₂
      repeat (any_goals (first | assumption | wp_step))
      exact h _ _ hS' hk'
     | _=>exact hr₂.elim
  | _=>exact hr.elim
def SetT (P:Program) (w:World) (p:Addr) (xs:List Str):HO:=HO.ext fun h=>h.SetOf (PySem.strKind P w) p (fun k=>(xs.foldl stepS []).any (· == k)) (xs.foldl stepS []).length
theorem metS_list (xs:List Str):metS (fun i=>xs.getD i Str.empty) xs.length=xs.foldl stepS []:=by
 unfold metS
 congr 1
 apply List.ext_getElem
 ·simp
 ·intro i h1 h2
  simp [List.getD,h2]
theorem strs_get {xs:List Str} {its:List Value} (r:Vals (xs.map V.str) its):∀ (i:Nat) (v:Value),its.toArray[i]? = some v→∃ t,v=.str (xs.getD i Str.empty) t:=fun i v e=>by
 have hlen:=r.length
 rw [List.length_map] at hlen
 have e:its[i]? = some v:=by simpa using e
 have hi:i<its.length:=(List.getElem?_eq_some_iff.mp e).1
 have hb:i<xs.length:=by omega
 obtain⟨u,hu,ru⟩:=r.get (i:=i) (x:=V.str xs[i]) (by simp [hb])
 rw [e] at hu; cases hu
 obtain⟨t,rfl⟩:=ru
 exact⟨t,by simp [List.getD,hb]⟩
section
variable {X:Cx}
theorem call_setT (hc:X.calm=true):CallR X (.type "set") (fun xs H Q=>∃ (p:Addr) (ys:List Str),xs=[.ref p]∧(SqL X.K H p (ys.map V.str)∨SqT X.K H p (ys.map V.str))∧ys.length+1<scanBound∧∀ d,H d=none→Q (.ref d) (upd H d (SetT X.prog X.w d ys))):=by
 intro pins s σ H xs us Q I r h
 obtain⟨p,ys,rfl,hq,hb,q⟩:=h
 obtain⟨u,rfl,rx⟩:=vals1 r
 cases rx
 have fin:∀ (its:List Value),ys.length=its.length→∀ (h':Heap) (tk:Nat),h'.SetOf (PySem.strKind X.prog X.w) s.heap.objs.size (fun k'=>(metS (fun i=>ys.getD i Str.empty) its.toArray.size).any (· == k')) (metS (fun i=>ys.getD i Str.empty) its.toArray.size).length→
   (∀ b o,b<s.heap.objs.size→s.heap.get? b=some o→h'.get? b=some o)→EP X pins σ Q (.ref s.heap.objs.size) {s with heap:=h',toks:=tk}:=fun its hl h' tk hS kk=>by
  have esz:its.toArray.size=ys.length:=by rw [List.size_toArray,hl]
  rw [esz,metS_list] at hS
  refine⟨.ref s.heap.objs.size,_,I.laid (t':=tk) (fun b o e=>kk b o (Heap.lt_size e) e) (Nat.le_refl _) ?_,rfl,q _ (I.hok.fresh (Nat.le_refl _))⟩
  refine⟨hS,?_,fun h1 h2 a b=>?_⟩
  ·obtain⟨o,es,ep,t,ho,_⟩:=hS
   exact⟨o,ho⟩
  ·obtain⟨o,es,ep,t,ho,rest⟩:=a
   exact⟨o,es,ep,t,b o ho,rest⟩
 rcases hq with hq | hq
 ·obtain⟨its,r',pl,hz⟩:=I.list hq
  have hlen:=r'.length
  rw [List.length_map] at hlen
  exact call_set_listS (val:=fun i=>ys.getD i Str.empty) (I.ok.hd hc) pl.isList (strs_get r') (by rw [List.size_toArray]; omega) (fin its hlen)
 ·obtain⟨its,r',pl,hz⟩:=I.tuple hq
  have hlen:=r'.length
  rw [List.length_map] at hlen
  exact call_set_tupleS (val:=fun i=>ys.getD i Str.empty) (I.ok.hd hc) pl (strs_get r') (by rw [List.size_toArray]; omega) (fin its hlen)
theorem call_lenT:CallR X (.builtin "len") (fun xs H Q=>∃ (p:Addr) (ys:List Str),xs=[.ref p]∧H p=some (SetT X.prog X.w p ys)∧Q (.int (ys.foldl stepS []).length) H):=by
 intro pins s σ H xs us Q I r h
 obtain⟨p,ys,rfl,hp,q⟩:=h
 obtain⟨u,rfl,rx⟩:=vals1 r
 cases rx
 obtain⟨hS,_,_⟩:=I.hok p _ hp
 have hS:s.heap.SetOf (PySem.strKind X.prog X.w) p (fun k=>(ys.foldl stepS []).any (· == k)) (ys.foldl stepS []).length:=hS
 obtain⟨o,es,ep,t,ho,hex,hd,_,_,hsb,hf,hn⟩:=hS
 refine call_len_set ho hex hd hf (by unfold scanBound at hsb; omega) ⟨.int (ys.foldl stepS []).length,H,I.tok _,⟨_,by rw [hn]⟩,q⟩
end
theorem foldS_nodup:∀ (xs σ:List Str),xs.Nodup→(∀ x∈xs,¬ x∈σ)→(xs.foldl stepS σ).length=σ.length+xs.length
 | [],σ,_,_=>by simp
 | x::r,σ,h,hn=>by
  obtain⟨h1,h2⟩:=List.nodup_cons.mp h
  have e:stepS σ x=σ++[x]:=by
   unfold stepS
   rw [if_neg]
   intro z
   obtain⟨y,hy,e⟩:=List.any_eq_true.mp z
   exact hn x List.mem_cons_self (by rw [← eq_of_beq e]; exact hy)
  rw [List.foldl_cons,e,foldS_nodup r _ h2 fun y hy z=>?_]
  ·simp; omega
  ·rcases List.mem_append.mp z with q | q
   ·exact hn y (List.mem_cons_of_mem _ hy) q
   ·exact h1 (by rw [← List.mem_singleton.mp q]; exact hy)
theorem vals_strs:∀ {xs:List Str} {its:List Value},Vals (xs.map V.str) its→∃ l:List (Str×Tok),its=strValues l∧l.map (·.1)=xs
 | [],_,.nil=>⟨[],rfl,rfl⟩
 | x::r,_,.cons ⟨t,e⟩ tl=>by
  obtain⟨l,e1,e2⟩:=vals_strs tl
  exact⟨(x,t)::l,by rw [e,e1]; rfl,by rw [← e2]; rfl⟩
section
variable {X:Cx}
theorem mt_join:MtR X "str.join" (fun x xs H Q=>∃ (sep:Str) (p:Addr) (ys:List Str),x=.str sep∧xs=[.ref p]∧SqL X.K H p (ys.map V.str)∧JoinOk sep ys=true∧Q (.str (Str.join sep ys)) H):=by
 intro pins s σ H x xs v us Q I rx rs h
 obtain⟨sep,p,ys,rfl,rfl,hq,hok,q⟩:=h
 obtain⟨t,rfl⟩:=rx
 obtain⟨u,rfl,ru⟩:=vals1 rs
 cases ru
 obtain⟨its,r',pl,hz⟩:=I.list hq
 obtain⟨l,rfl,e2⟩:=vals_strs r'
 refine SC.join pl.isList e2 hok fun t' k=>⟨.str (Str.join sep ys),H,I.tok k,⟨t',?_⟩,q⟩
 show Value.str (Txt.join sep ys) t'=_
 rw [show Txt.join sep ys=Str.join sep ys from StrLaws.glued_eq_join sep ys]
mutual
inductive RdsV (H:Hp):V→PyData→Prop where
 | non:RdsV H .non .none
 | bl (b:Bool):RdsV H (.bl b) (.bool b)
 | int (i:Int):RdsV H (.int i) (.int i)
 | str (x:Str):RdsV H (.str x) (.str x)
 | lst {a:Addr} {xs:List V} {ds:List PyData}:H a=some (.lst xs)→RdsA H xs ds→RdsV H (.ref a) (.list ds)
 | tup {a:Addr} {xs:List V} {ds:List PyData}:H a=some (.tup xs)→RdsA H xs ds→RdsV H (.ref a) (.tuple ds)
inductive RdsA (H:Hp):List V→List PyData→Prop where
 | nil:RdsA H [] []
 | cons {x:V} {xs:List V} {d:PyData} {ds:List PyData}:RdsV H x d→RdsA H xs ds→RdsA H (x::xs) (d::ds)
end
mutual
theorem RdsV.reads {P:Program} {w:World} {H:Hp} {h:Heap} (ok:HOk P w H h):∀ {x:V} {d:PyData},RdsV H x d→∀ {u:Value},RelV x u→∃ as,Reads h u d as
 | _,_,.non,u,r=>by cases r; exact⟨_,.none⟩
 | _,_,.bl b,u,r=>by cases r; exact⟨_,.bool b⟩
 | _,_,.int i,u,r=>by obtain⟨t,rfl⟩:=r; exact⟨_,.int i t⟩
 | _,_,.str x,u,r=>by obtain⟨t,rfl⟩:=r; exact⟨_,.str x t⟩
 | _,_,.lst (a:=a) e z,u,r=>by
  cases r
  obtain⟨_,its,n,rv,e1⟩:=ok a _ e
  obtain⟨as,q⟩:=RdsA.reads ok z rv
  exact⟨_,.list e1 rfl rfl (by simpa using q)⟩
 | _,_,.tup (a:=a) e z,u,r=>by
  cases r
  obtain⟨_,its,rv,o,e1,e2,n,e3⟩:=ok a _ e
  obtain⟨as,q⟩:=RdsA.reads ok z rv
  exact⟨_,.tuple e1 e2 e3 (by simpa using q)⟩
theorem RdsA.reads {P:Program} {w:World} {H:Hp} {h:Heap} (ok:HOk P w H h):∀ {xs:List V} {ds:List PyData},RdsA H xs ds→∀ {us:List Value},Vals xs us→∃ as,ReadsAll h us ds as
 | _,_,.nil,_,.nil=>⟨_,.nil⟩
 | _,_,.cons a b,_,.cons r t=>by
  obtain⟨as,q1⟩:=RdsV.reads ok a r
  obtain⟨bs,q2⟩:=RdsA.reads ok b t
  exact⟨_,.cons q1 q2⟩
end
theorem call_reprD {k:Nat} (hr:Room k X.A):CallR X (.builtin "repr") (fun xs H Q=>∃ (p:Addr) (d:PyData),xs=[.ref p]∧RdsV H (.ref p) d∧d.showable=true∧d.hasDict=false∧d.depth≤60∧d.shown.length≤sizeLine∧Q (.str d.shown) H):=by
 intro pins s σ H xs us Q I r h
 obtain⟨p,d,rfl,hd,h1,h2,h3,h4,q⟩:=h
 obtain⟨u,rfl,rx⟩:=vals1 r
 cases rx
 obtain⟨as,rd⟩:=hd.reads I.hok (u:=.ref p) rfl
 have hu:=hr.units
 refine repr_of_reads' (h₀:=s.heap) rd h1 (fun z=>by rw [h2] at z; cases z) hr.gd (by omega) (fun _ _ e=>e) (fun h' u tk kk=>⟨.str d.shown,H,I.kept kk,⟨u,rfl⟩,q⟩) h4
theorem call_isiT {T:String}:CallR X (.builtin "isinstance") (fun xs H Q=>∃ (x:V) (t:Value) (b:Bool),xs=[x,.ty T]∧TyOf X.K H x t∧PySem.W.kitOne X.K t (.type T)=some b∧Q (.bl b) H):=by
 intro pins s σ H xs us Q I r h
 obtain⟨x,t,b,rfl,ty,e,q⟩:=h
 obtain⟨u,u',rfl,rx,ry⟩:=vals2 r
 cases ry
 exact isinst_ok I rx ty e fun tk=>⟨.bl b,H,I.tok tk,rfl,q⟩
theorem isinst_tup {pins:List (Addr×Obj)} {σ:St} {H:Hp} {s:Shared} {A:Around} {E:Value→Shared→Prop} {Q:Value→Shared→Prop} {b:Bool} {x:V} {u t:Value} {tp:Addr} {cs:List Value} (I:Inv X pins σ H s) (rx:RelV x u) (ty:TyOf X.K H x t)
  (htp:∃ (dd:Option Addr) (n:Nat) (sl:Array (Option Value)),s.heap.get? tp=some ⟨.type "tuple",dd,.seq cs.toArray n,sl⟩) (e:PySem.W.kitAny X.K t cs=some b) (h:∀ tk,Q (.bool b) {s with toks:=tk}) :
  wpAny (model X.prog X.w) A (call (.builtin "isinstance") [u,.ref tp]) Q E s:=by
 obtain⟨dd,n,sl,htp⟩:=htp
 cases ty with
 | non=>cases (show u=Value.none from rx); exact PySem.W.kia_tup PySem.W.kitx_none I.kIn True.intro htp e (fun z=>nomatch z) h
 | bl y=>cases (show u=Value.bool y from rx); exact PySem.W.kia_tup PySem.W.kitx_bool I.kIn True.intro htp e (fun z=>nomatch z) h
 | int i=>obtain⟨t,q⟩:=(show ∃ t,u=Value.int i t from rx); cases q; exact PySem.W.kia_tup PySem.W.kitx_int I.kIn True.intro htp e (fun z=>nomatch z) h
 | str y=>obtain⟨t,q⟩:=(show ∃ t,u=Value.str y t from rx); cases q; exact PySem.W.kia_tup PySem.W.kitx_str I.kIn True.intro htp e (fun z=>nomatch z) h
 | flt y=>obtain⟨t,q⟩:=(show ∃ t,u=Value.float y t from rx); cases q; exact PySem.W.kia_tup PySem.W.kitx_float I.kIn True.intro htp e (fun z=>nomatch z) h
 | @lst a xs ea=>
  cases (show u=Value.ref a from rx)
  obtain⟨_,_,n,_,h1⟩:=(show ObjOk X.prog X.w H s.heap a (.lst xs) from I.hok a _ ea)
  exact PySem.W.kia_tup PySem.W.kitx_list I.kIn ⟨_,h1,rfl⟩ htp e (fun z=>nomatch z) h
 | @frz a ob xs ea=>
  cases (show u=Value.ref a from rx)
  obtain⟨_,_,_,n,_,h1⟩:=(show ObjOk X.prog X.w H s.heap a (.frz ob (.lst xs)) from I.hok a _ ea)
  exact PySem.W.kia_tup PySem.W.kitx_list I.kIn ⟨_,h1,rfl⟩ htp e (fun z=>nomatch z) h
 | @tup a xs ea=>
  cases (show u=Value.ref a from rx)
  obtain⟨_,_,_,p⟩:=(show ObjOk X.prog X.w H s.heap a (.tup xs) from I.hok a _ ea)
  obtain⟨o,h1,h2,_⟩:=p
  exact PySem.W.kia_tup PySem.W.kitx_tuple I.kIn ⟨o,h1,h2⟩ htp e (fun z=>nomatch z) h
 | @dK a kvs ea=>
  cases (show u=Value.ref a from rx)
  obtain⟨_,_,vs,_,p⟩:=(show ObjOk X.prog X.w H s.heap a (.dK kvs) from I.hok a _ ea)
  obtain⟨o,es,ep,h1,h2,_⟩:=p
  exact PySem.W.kia_tup PySem.W.kitx_dict I.kIn ⟨o,h1,h2.1⟩ htp e (fun z=>nomatch z) h
 | @dT a kvs ea=>
  cases (show u=Value.ref a from rx)
  obtain⟨_,_,xs,_,o,es,ep,h1,h2,_⟩:=(show ObjOk X.prog X.w H s.heap a (.dT kvs) from I.hok a _ ea)
  exact PySem.W.kia_tup PySem.W.kitx_dict I.kIn ⟨o,h1,h2.1⟩ htp e (fun z=>nomatch z) h
 | @ins a C dx fs ea cl ha hn htk hm=>
  cases (show u=Value.ref a from rx)
  obtain⟨mA,O,_⟩:=ins_get I.hok ea
  obtain⟨od,J,_⟩:=O.look
  exact PySem.W.kia_tup (PySem.W.kitx_own (cl.get _) cl.hd ha hn htk hm) I.kIn J htp e (fun z=>nomatch z) h
theorem call_isi2 {T U:String}:CallR X (.builtin "isinstance") (fun xs H Q=>∃ (x:V) (p:Addr) (t:Value) (b:Bool),xs=[x,.ref p]∧H p=some (.tup [.ty T,.ty U])∧TyOf X.K H x t∧PySem.W.kitAny X.K t [.type T,.type U]=some b∧Q (.bl b) H):=by
 intro pins s σ H xs us Q I r h
 obtain⟨x,p,t,b,rfl,hp,ty,e,q⟩:=h
 obtain⟨u,u',rfl,rx,ry⟩:=vals2 r
 cases ry
 obtain⟨_,its,rv,o,h1,h2,n,h3⟩:=I.hok p _ hp
 obtain⟨a,b',rfl,ra,rb⟩:=vals2 rv
 cases ra
 cases rb
 refine isinst_tup (cs:=[.type T,.type U]) I rx ty ?_ e fun tk=>⟨.bl b,H,I.tok tk,rfl,q⟩
 obtain⟨oc,od,odt,osl⟩:=o
 cases h2
 cases h3
 exact⟨od,n,osl,h1⟩
end
section
variable {X:Cx}
def rCatTT (K:PySem.W.Frag):R2:=fun x y H Q=>∃ a b xs ys,x=.ref a∧y=.ref b∧SqT K H a xs∧SqT K H b ys∧xs.length+ys.length≤sizeLine∧
 (xs=[]→Q (.ref b) H)∧(xs≠[]→ys=[]→Q (.ref a) H)∧(xs≠[]→ys≠[]→∀ p,H p=none→Q (.ref p) (upd H p (.tup (xs++ys))))
theorem op_catTT:OpR X (binaryOp .Add) (rCatTT X.K):=by
 intro pins s σ H x y v u Q I rx ry h
 obtain⟨a,b,xs,ys,rfl,rfl,ha,hb,hz,q0,q1,q2⟩:=h
 by_cases hx:xs=[]
 ·cases rx
  cases ry
  obtain⟨its,r1,p1,_⟩:=I.tuple ha
  obtain⟨its2,r2,p2,_⟩:=I.tuple hb
  obtain⟨⟨cls,dd,data,sl⟩,ho,hc,n,hd⟩:=id p1
  obtain⟨⟨cls2,dd2,data2,sl2⟩,ho2,hc2,n2,hd2⟩:=id p2
  simp only at hc hd hc2 hd2
  subst hc hd hc2 hd2
  have e:its=[]:=r1.nil_iff.mpr hx
  exact concat_meets ⟨_,ho,rfl⟩ ⟨_,ho2,rfl⟩ noFill_tuple_add seq_tuple_add PySem.F.slot_tuple_add PySem.F.entry_tuple_add (PySem.F.args_tuple_add_2 _ _)
   (tuple_addW0 a b its.toArray its2.toArray n n2 dd dd2 sl sl2 (by simp [e])) ⟨ho,ho2,⟨.ref b,H,I,rfl,q0 hx⟩⟩
 ·exact op_catT pins s σ H _ _ v u Q I rx ry ⟨a,b,xs,ys,rfl,rfl,ha,hb,hx,hz,q1 hx,q2 hx⟩
theorem bt_len:bootBuiltins "len"=some (.builtin "len"):=by decide +kernel
theorem bt_max:bootBuiltins "max"=some (.builtin "max"):=by decide +kernel
theorem bt_abs:bootBuiltins "abs"=some (.builtin "abs"):=by decide +kernel
theorem bt_divmod:bootBuiltins "divmod"=some (.builtin "divmod"):=by decide +kernel
theorem bt_all:bootBuiltins "all"=some (.builtin "all"):=by decide +kernel
theorem bt_repr:bootBuiltins "repr"=some (.builtin "repr"):=by decide +kernel
theorem bt_isinstance:bootBuiltins "isinstance"=some (.builtin "isinstance"):=by decide +kernel
theorem bt_list:bootBuiltins "list"=some (.type "list"):=by decide +kernel
theorem bt_tuple:bootBuiltins "tuple"=some (.type "tuple"):=by decide +kernel
theorem bt_str:bootBuiltins "str"=some (.type "str"):=by decide +kernel
theorem bt_set:bootBuiltins "set"=some (.type "set"):=by decide +kernel
theorem bt_dict:bootBuiltins "dict"=some (.type "dict"):=by decide +kernel
def Def (P:Program) (w:World) (K:PySem.W.Frag) (mg:Str→Option Value) (base:Heap) (x:Str) (k:Nat) (ps:List Str) (sp:Sp):Prop:=
 ∃ f fd,mg x=some (.ref f)∧PySem.W.keepIn K (.ref f)=true∧Binds K fd ps []∧FnOk P w K mg base CX0 k f fd ps sp
theorem pe_def {x:Str} {k:Nat} {ps:List Str} {sp:Sp} {p pos:Pos} {e:Expr} {es:List Expr} {t:TA} (D:Def X.prog X.w X.K X.mg X.base x k ps sp) (hr:Room k X.A) (hg:Gl X x) (ha:PA X (e::es) t)
  (hdb:(x==("__debug__":Str))=false:=by decide) (he:starEach (e::es) X.env=(false,eval e X.env)::starEach es X.env:=by rfl) (hpl:(backTo pos (starEach es X.env)).any (·.1)=false:=by rfl) :
  PE X (.Call (.Name x p) (e::es) [] pos) (tCall sp [] E0 t):=by
 obtain⟨f,fd,hm,hk,hb,F⟩:=D
 exact pe_call F hr hg hm hk hb .nil pass0 ha hdb he hpl
structure FunAt (K:PySem.W.Frag) (mg:Str→Option Value) (x:Str) (st:Stmt) (ps:List Str):Prop where
 ex:∃ f fd,Fun K x x st f fd∧mg x=some (.ref f)∧Binds K fd ps []
theorem FunAt.mk' {P:Program} {w:World} {K:PySem.W.Frag} {mg:Str→Option Value} {base:Heap} {x:Str} {st:Stmt} {N ps:List Str} {k:Nat} {sp:Sp} (F:FunAt K mg x st ps) (S:FnScope N ps (defScope st)) (len:∀ vs H Q E,sp vs H Q E→vs.length=ps.length)
  (hbody:∀ (f:Addr) (cdv:Value) (A:Around) (outer:List Env) (s:Shared) (H:Hp) (vs:List V) (Q:VK) (E:XK),Room k (A.deeper (envOfC x (defScope st) s.heap.objs.size f cdv))→sp vs H Q E→
   ∃ t,PSs (cxOf CX0 P w K mg base N x (defScope st) f cdv A outer s H E).nox (defBody st) t∧t {nx:=fun _ H'=>Q .non H',rt:=Q} (start N vs) H):Def P w K mg base x (k+1) ps sp:=by
 obtain⟨f,fd,Fn,hm,hb⟩:=F.ex
 exact⟨f,fd,hm,Fn.kp,hb,Fn.ok S len (hbody f)⟩
theorem noxe {X:Cx}:∀ v s,¬ (X.nox).xe v s:=fun _ _ z=>z
def SameX (p:Addr) (H H':Hp):Prop:=∀ b o,b≠p→H b=some o→H' b=some o
theorem SameX.trans {p:Addr} {H H1 H2:Hp} (a:SameX p H H1) (b:SameX p H1 H2):SameX p H H2:=fun c o n h=>b c o n (a c o n h)
theorem SameX.refl (p:Addr) (H:Hp):SameX p H H:=fun _ _ _ h=>h
theorem SameX.upd (p:Addr) (H:Hp) (o:HO):SameX p H (upd H p o):=fun b u n h=>by rw [upd_ne n]; exact h
theorem same_new {H:Hp} {p:Addr} (h:H p=none) (o:HO):Same H (upd H p o):=fun b u e=>by rw [upd_ne (ne_of_none e h)]; exact e
theorem Same.x {p:Addr} {H H':Hp} (a:Same H H'):SameX p H H':=fun b o _ h=>a b o h
end
theorem SameX.same {p:Addr} {H H1 H2:Hp} (a:SameX p H H1) (b:Same H1 H2):SameX p H H2:=fun c o n h=>b c o (a c o n h)
theorem SameX.free {p:Addr} {H H':Hp} (e:SameX p H H') {l:Addr} (n:l≠p) (h:H' l=none):H l=none:=by
 cases q:H l with
 | none=>rfl
 | some o=>rw [e l o n q] at h; cases h
theorem atI_int {α:Type} {xs:List α} {i:Int} {x:α} (h0:0≤i) (h:xs[i.toNat]? = some x):atI xs i=some x:=by
 have:=atI_nat h
 rwa [Int.toNat_of_nonneg h0] at this
theorem seqIx {n:Nat} {i:Int} (h0:0≤i) (h1:i<n):seqIndex? i n=some i.toNat:=by
 unfold seqIndex?
 simp [show ¬ (i<0) by omega,h0,h1]
structure CompSc (n:Nat) (N' N:List Str) (osc scope:Scope):Prop where
 kind:scope.kind=.function
 names:∀ x∈scope.names,x.2=.local→scope.names.lookup x.1=some .local
 cell:∀ x∈scope.names,x.2≠.cell
 free:∀ x∈scope.names,x.2=.free→osc.names.lookup x.1=some .cell∨osc.names.lookup x.1=some .free
 nd:N'.Nodup
 len:N'.length=n+N.length
 look:lookOk n N' N scope.names=true
theorem CompSc.at {X:Cx} {n:Nat} {N':List Str} {scope:Scope} (h:CompSc n N' X.N X.env.scope scope):CompScope n N' X scope:=⟨h.kind,h.names,h.cell,h.free,h.nd,h.len,h.look⟩
end L2
set_option maxHeartbeats 4000000
namespace L2
open PySem PySem.Spec PyProof.Rows
mutual
inductive RdV (R:Addr→Prop) (H:Hp):V→PyData→Prop where
 | non:RdV R H .non .none
 | bl (b:Bool):RdV R H (.bl b) (.bool b)
 | int (i:Int):RdV R H (.int i) (.int i)
 | str (x:Str):RdV R H (.str x) (.str x)
 | lst {a:Addr} {xs:List V} {ds:List PyData}:R a→H a=some (.lst xs)→RdA R H xs ds→RdV R H (.ref a) (.list ds)
 | tup {a:Addr} {xs:List V} {ds:List PyData}:R a→H a=some (.tup xs)→RdA R H xs ds→RdV R H (.ref a) (.tuple ds)
inductive RdA (R:Addr→Prop) (H:Hp):List V→List PyData→Prop where
 | nil:RdA R H [] []
 | cons {x:V} {xs:List V} {d:PyData} {ds:List PyData}:RdV R H x d→RdA R H xs ds→RdA R H (x::xs) (d::ds)
end
mutual
theorem RdV.mono {R R':Addr→Prop} {H H':Hp} (hR:∀ a,R a→R' a) (hH:∀ a o,R a→H a=some o→H' a=some o):∀ {x:V} {d:PyData},RdV R H x d→RdV R' H' x d
 | _,_,.non=>.non
 | _,_,.bl b=>.bl b
 | _,_,.int i=>.int i
 | _,_,.str x=>.str x
 | _,_,.lst r e z=>.lst (hR _ r) (hH _ _ r e) (RdA.mono hR hH z)
 | _,_,.tup r e z=>.tup (hR _ r) (hH _ _ r e) (RdA.mono hR hH z)
theorem RdA.mono {R R':Addr→Prop} {H H':Hp} (hR:∀ a,R a→R' a) (hH:∀ a o,R a→H a=some o→H' a=some o):∀ {xs:List V} {ds:List PyData},RdA R H xs ds→RdA R' H' xs ds
 | _,_,.nil=>.nil
 | _,_,.cons a b=>.cons (RdV.mono hR hH a) (RdA.mono hR hH b)
end
mutual
def tupOnly:PyData→Bool
 | .list _=>false
 | .tuple ds=>tupOnlyA ds
 | _=>true
def tupOnlyA:List PyData→Bool
 | []=>true
 | d::r=>tupOnly d&&tupOnlyA r
end
mutual
theorem RdV.monoT {R R':Addr→Prop} {H H':Hp} (hR:∀ a,R a→R' a) (hH:∀ a xs,H a=some (.tup xs)→H' a=some (.tup xs)):∀ {x:V} {d:PyData},tupOnly d=true→RdV R H x d→RdV R' H' x d
 | _,_,_,.non=>.non
 | _,_,_,.bl b=>.bl b
 | _,_,_,.int i=>.int i
 | _,_,_,.str x=>.str x
 | _,_,h,.lst r e z=>by simp [tupOnly] at h
 | _,_,h,.tup r e z=>.tup (hR _ r) (hH _ _ e) (RdA.monoT hR hH (by simpa [tupOnly] using h) z)
theorem RdA.monoT {R R':Addr→Prop} {H H':Hp} (hR:∀ a,R a→R' a) (hH:∀ a xs,H a=some (.tup xs)→H' a=some (.tup xs)):∀ {xs:List V} {ds:List PyData},tupOnlyA ds=true→RdA R H xs ds→RdA R' H' xs ds
 | _,_,_,.nil=>.nil
 | _,_,h,.cons a b=>by
  simp only [tupOnlyA,Bool.and_eq_true] at h
  exact .cons (RdV.monoT hR hH h.1 a) (RdA.monoT hR hH h.2 b)
end
section
variable {R:Addr→Prop} {H H':Hp} {v:V} {xs ys:List V} {ds es:List PyData} {d:PyData}
theorem RdV.same (hs:Same H H') (h:RdV R H v d):RdV R H' v d:=h.mono (fun _ r=>r) fun a o _ e=>hs a o e
theorem RdA.same (hs:Same H H') (h:RdA R H xs ds):RdA R H' xs ds:=h.mono (fun _ r=>r) fun a o _ e=>hs a o e
theorem RdV.list_inv (h:RdV R H v (.list ds)):∃ a xs,v=.ref a∧R a∧H a=some (.lst xs)∧RdA R H xs ds:=by cases h with | lst r e z=>exact⟨_,_,rfl,r,e,z⟩
theorem RdV.tuple_inv (h:RdV R H v (.tuple ds)):∃ a xs,v=.ref a∧R a∧H a=some (.tup xs)∧RdA R H xs ds:=by cases h with | tup r e z=>exact⟨_,_,rfl,r,e,z⟩
theorem RdV.str_inv {x:Str} (h:RdV R H v (.str x)):v=.str x:=by cases h; rfl
theorem RdA.length:∀ {xs:List V} {ds:List PyData},RdA R H xs ds→xs.length=ds.length
 | _,_,.nil=>rfl
 | _,_,.cons _ t=>by rw [List.length_cons,List.length_cons,RdA.length t]
theorem RdA.getV:∀ {xs:List V} {ds:List PyData} {i:Nat} {x:V},RdA R H xs ds→xs[i]? = some x→∃ d,ds[i]? = some d∧RdV R H x d
 | _,_,_,_,.nil,h=>by simp at h
 | _,_,0,_,.cons a t,h=>by simp at h; subst h; exact⟨_,rfl,a⟩
 | _,_,i+1,_,.cons a t,h=>by simpa using RdA.getV (i:=i) t (by simpa using h)
theorem RdA.append:∀ {xs ys:List V} {ds es:List PyData},RdA R H xs ds→RdA R H ys es→RdA R H (xs++ys) (ds++es)
 | _,_,_,_,.nil,h=>h
 | _,_,_,_,.cons a t,h=>.cons a (RdA.append t h)
theorem RdA.snoc (h:RdA R H xs ds) (a:RdV R H v d):RdA R H (xs++[v]) (ds++[d]):=h.append (.cons a .nil)
theorem RdA.strs:∀ ws:List Str,RdA R H (ws.map V.str) (ws.map PyData.str)
 | []=>.nil
 | x::r=>.cons (.str x) (RdA.strs r)
theorem RdA.strs_inv:∀ {ws:List Str} {xs:List V},RdA R H xs (ws.map PyData.str)→xs=ws.map V.str
 | [],_,.nil=>rfl
 | _::_,_,.cons a t=>by rw [RdV.str_inv a,RdA.strs_inv t]; rfl
theorem RdA.two (h:RdA R H xs [d,e]):∃ x y,xs=[x,y]∧RdV R H x d∧RdV R H y e:=by
 cases h with | cons a t=>cases t with | cons b t=>cases t; exact⟨_,_,rfl,a,b⟩
theorem RdA.three {f:PyData} (h:RdA R H xs [d,e,f]):∃ x y z,xs=[x,y,z]∧RdV R H x d∧RdV R H y e∧RdV R H z f:=by
 cases h with | cons a t=>cases t with | cons b t=>cases t with | cons c t=>cases t; exact⟨_,_,_,rfl,a,b,c⟩
end
inductive StrConsts:List Expr→List Str→Prop where
 | nil:StrConsts [] []
 | cons {x:Str} {j:Nat} {pos:Pos} {es:List Expr} {ws:List Str}:StrConsts es ws→StrConsts (.Constant (.str x) j pos::es) (x::ws)
def tStrs (ws:List Str):TA:=fun _ H Q=>Q (ws.map V.str) H
theorem pa_strs {X:Cx} {es:List Expr} {ws:List Str} (h:StrConsts es ws):PA X es (tStrs ws):=by
 induction h with
 | nil=>exact pa_nil
 | cons h ih=>
  rename_i x j pos es ws
  intro pos' pins s σ H Q I hq
  exact pa_cons (te:=tC (.str x)) (t:=tStrs ws) pe_str ih rfl pos' pins s σ H Q I hq
section
variable {X:Cx}
theorem visL {sc:Scope} {x:Str} (h:sc.names.lookup x=some .local):Vis sc x:=.inl h
theorem visC {sc:Scope} {x:Str} (h:sc.names.lookup x=some .cell):Vis sc x:=.inr (.inl h)
theorem visF {scope:Scope} {env:Env} {x:Str} (h:scope.names.lookup x=some .free):Vis (relabel scope env) x:=by
 have e:(relabel scope env).names.lookup x=_:=lookup_relabel
 rw [h] at e
 simp only [Option.map_some] at e
 split at e
 ·exact .inr (.inl e)
 ·exact .inr (.inr e)
theorem visO {scope:Scope} {env:Env} {x:Str} (h:scope.names.lookup x=some .local):Vis (relabel scope env) x:=.inl (lookup_relabel_local h)
theorem locO {scope:Scope} {env:Env} {x:Str} (h:scope.names.lookup x=some .local):Loc (relabel scope env) x:=.inl (lookup_relabel_local h)
theorem glO {scope:Scope} {env:Env} {x:Str} (h:scope.names.lookup x=some .globalImplicit):(relabel scope env).names.lookup x=some .globalImplicit:=by
 have e:(relabel scope env).names.lookup x=_:=lookup_relabel
 rw [h] at e
 exact e
theorem pq (i:Nat) {x:Str} {pos:Pos} (hv:Vis X.env.scope x) (hd:(x==("__debug__":Str))=false) (hcd:(x==("__classdict__":Str))=false) (hN:X.N[i]? = some x:=by rfl):PE X (.Name x pos) (tVar i):=pe_var hN hv hd hcd
end
section
variable {P:Program} {w:World} {A:Around} {E:Value→Shared→Prop}
theorem draw_lst {it l:Addr} {its:Array Value} (ne:l≠it) (n:Nat):∀ (i:Nat) (s:Shared) (Q:List Value→Shared→Prop),s.heap.IsListIter it l i→s.heap.IsList l its→i+n≤its.size→
  (∀ h',h'.IsListIter it l (i+n)→Heap.SameBut it s.heap h'→Q ((its.toList.drop i).take n) {s with heap:=h'})→wpAny (model P w) A (draw (.ref it) n) Q E s:=by
 induction n with
 | zero=>
  intro i s Q a _ _ q
  have q0:=q s.heap a (Heap.SameBut.refl ..)
  rw [List.take_zero] at q0
  exact wpAny_pure q0
 | succ n ih=>
  intro i s Q a b le q
  have lt:i<its.size:=by omega
  refine wpAny_bind (m:=pyNext (.ref it)) (wpAny_pyNext_list_item a b (x:=its[i]) (by simp [lt]) fun h1 a1 s1=>?_)
  refine wpAny_bind (wpAny_holding (ih (i+1) _ _ a1 (b.extBut s1.extBut ne) (by omega) fun h2 a2 s2=>?_))
  refine wpAny_pure ?_
  have q2:=q h2 (by rw [Nat.add_comm n 1,← Nat.add_assoc]; exact a2) (s1.trans s2)
  have e:its.toList.drop i=its[i]::its.toList.drop (i+1):=by simp [List.drop_eq_getElem_cons,lt]
  rwa [e,List.take_succ_cons] at q2
theorem unpack_lst {s:Shared} {l:Addr} {its:Array Value} {ts:List (Bool×(Value→Sem Unit))} {Q:Unit→Shared→Prop} (hh:A.handled=none) (hl:s.heap.IsList l its) (hn:ts.length=its.size) (hs:ts.findIdx? (·.1)=none)
  (q:∀ h',Heap.ExtBut s.heap.objs.size s.heap h'→wpAny (model P w) A (assignInOrder (ts.map (·.2)) its.toList) Q E {s with heap:=h'}):wpAny (model P w) A (unpack (.ref l) ts) Q E s:=by
 have ne:l≠s.heap.objs.size:=by
  obtain⟨o,e,_⟩:=hl
  exact Nat.ne_of_lt (Heap.lt_size e)
 unfold unpack
 rw [hs,hn]
 refine wpAny_bind (wpAny_holding ?_)
 unfold unpackItems notIterableAtAll
 refine wpAny_bind (wpAny_bind (wpAny_specialOf hl.typeIs slot_list_iter.lookup (wpAny_pure ?_)))
 simp only [Bool.false_eq_true,if_false]
 refine wpAny_bind (wpAny_holding (wpAny_pyIter_list hl ?_))
 refine wpAny_bind (wpAny_holding (draw_lst ne its.size 0 _ _ ⟨_,Heap.get?_push_size _ rfl,rfl,rfl⟩ (hl.push _) (by omega) fun h1 a1 s1=>?_))
 have all:(its.toList.drop 0).take its.size=its.toList:=by simp [List.take_of_length_le]
 rw [all,if_neg (by simp)]
 refine wpAny_bind (wpAny_holding (wpAny_pyNext_list_end hh a1 ((hl.push _).extBut s1.extBut ne) (by simp) fun h2 e2=>?_))
 simp only [Option.isSome_none,Bool.false_eq_true,if_false]
 exact wpAny_pure (q h2 fun b o nb e=>e2 b o nb (s1.extBut b o nb (Heap.get?_push_of_some _ e)))
end
section
variable {X:Cx} {pos:Pos}
def gSeq (K:PySem.W.Frag) (n:Nat) (t:TGs):TG:=fun v σ H Q=>∃ a xs,v=.ref a∧(SqL K H a xs∨SqT K H a xs)∧xs.length=n∧t xs σ H Q
theorem pg_seq {es:List Expr} {k:Nat} {t:TGs} {n:Nat} (hc:X.calm=true) (h:PGs X es t) (hn:(assignEach es X.env).length=n:=by rfl) (hst:(assignEach es X.env).findIdx? (·.1)=none:=by rfl):PG X (.Tuple es k pos) (gSeq X.K n t):=by
 intro pins s σ H v u Q I r hw
 obtain⟨a,xs,rfl,hq | hq,hl,hw⟩:=hw
 ·cases r
  obtain⟨its,rv,pl,hz⟩:=I.list hq
  rw [assign_Tuple]
  refine wpAny_bind (wpAny_standAt (unpack_lst (I.ok.hd hc) pl.isList (by simp [hn,← hl,rv.length]) hst fun h' hx=>?_))
  have I1:Inv X pins σ H {s with heap:=h'}:=I.kept (t':=s.toks) fun b o e=>hx b o (Nat.ne_of_lt (Heap.lt_size e)) e
  exact h pins _ σ H xs _ Q I1 (by simpa using rv) hw
 ·exact pg_tup hc h hn hst pins s σ H _ u Q I r ⟨a,xs,rfl,hq,hl,hw⟩
end
structure Loose (X:Cx) (pins:List (Addr×Obj)) (H:Hp) (b:Addr):Prop where
 un:H b=none
 new:b∈X.ex∨X.s₀.heap.get? b=none
 loc:b≠X.env.locals
 cel:∀ x c,X.env.cells.lookup x=some c→c≠b
 pin:∀ p∈X.pn++pins,p.1≠b
section
variable {X:Cx} {pins:List (Addr×Obj)} {σ:List (Option V)} {H:Hp} {s:Shared} {h':Heap}
theorem Inv.fly {t':Nat} {S:List Addr} (I:Inv X pins σ H s) (hS:∀ b∈S,Loose X pins H b) (kp:∀ b o,s.heap.get? b=some o→b∉S→b∉frs X.stack→h'.get? b=some o)
  (sl:∀ b o,s.heap.get? b=some o→b∈frs X.stack→∃ w,h'.get? b=some {o with slots:=w}):Inv X pins σ H {s with heap:=h',toks:=t'}:=by
 have nS:∀ b u,H b=some u→b∉S:=fun b u e z=>by rw [(hS b z).un] at e; cases e
 have nF:∀ b u,H b=some u→b∉frs X.stack:=fun b u e z=>by rw [I.stkFree b z] at e; cases e
 have neL:∀ b o,X.s₀.heap.get? b=some o→b≠X.env.locals:=fun b o e=>Nat.ne_of_lt (Nat.lt_of_lt_of_le (Heap.lt_size e) I.ok.above)
 have neC:∀ b o,X.s₀.heap.get? b=some o→b∉X.ex→b∉S:=fun b o e hx hb=>by
  rcases(hS b hb).new with z | z
  ·exact hx z
  ·rw [z] at e; cases e
 have stkL:∀ b,b∈frs X.stack→b≠X.env.locals→b∈X.fs:=fun b hb n=>(List.mem_cons.mp (I.stkSub b hb)).elim (fun z=>absurd z n) id
 have any:∀ b o,s.heap.get? b=some o→b∉S→∃ w,h'.get? b=some {o with slots:=w}:=fun b o e n=>by
  by_cases hb:b∈frs X.stack
  ·exact sl b o e hb
  ·exact⟨o.slots,kp b o e n hb⟩
 have cellK:∀ x c,X.env.cells.lookup x=some c→∀ v,s.heap.IsCell c v→h'.IsCell c v:=fun x c e v ⟨o,ho,hd⟩=>by
  obtain⟨w,q⟩:=any c o ho fun z=>(hS c z).cel x c e rfl
  exact⟨_,q,hd⟩
 refine⟨I.ok,I.os,I.bare,⟨fun b o e n hb hx=>?_,fun b o e n hb hx=>?_,fun b o e n hx=>I.base.free b o e n hx,fun b o e hx=>?_,I.base.tups,I.base.frzs,I.base.tbls⟩,?_,fun x c e=>?_,I.free,I.freeC,fun p hp=>?_,fun b u e=>?_,I.len⟩
 ·exact kp b o (I.base.keep b o e n hb hx) (neC b o e hx) fun z=>hb (stkL b z (neL b o e))
 ·obtain⟨w,e1⟩:=I.base.slot b o e n hb hx
  obtain⟨w',e2⟩:=any b _ e1 (neC b o e hx)
  exact⟨w',e2⟩
 ·obtain⟨o',e1⟩:=I.base.there b o e hx
  obtain⟨w,e2⟩:=any b o' e1 (neC b o e hx)
  exact⟨_,e2⟩
 ·obtain⟨m,⟨o,es,ep,ho,r⟩,hl⟩:=I.loc
  obtain⟨w,q⟩:=any _ o ho fun z=>(hS _ z).loc rfl
  refine⟨m,⟨_,es,ep,q,r⟩,fun i x v e1 e2 e3=>?_⟩
  obtain⟨u,r,l⟩:=hl i x v e1 e2 e3
  refine⟨u,r,?_⟩
  rcases l with l | ⟨k,c,e,z⟩
  ·exact .inl l
  ·exact .inr ⟨k,c,e,cellK x c e _ z⟩
 ·obtain⟨v,z⟩:=I.cell x c e
  exact⟨v,cellK x c e v z⟩
 ·obtain⟨e,n,ne,nf,d⟩:=I.pin p hp
  exact⟨kp p.1 p.2 e (fun z=>(hS p.1 z).pin p hp rfl) fun z=>nf (stkL _ z ne),n,ne,nf,d⟩
 ·refine(I.hok b u e).stay (fun c v hc q=>?_) (fun _ q=>q) fun _ _ q=>q
  rcases hc with z | z
  ·subst z; exact kp _ v q (nS _ u e) (nF _ u e)
  ·exact kp c v q (nS c _ z) (nF c _ z)
end
inductive Exc (h:Heap) (a:Addr) (cls:Value):Option Value→List Addr→Prop where
 | made {oe:Obj} {vs:Array Value} {a0:Value}:h.get? a=some oe→oe.cls=cls→oe.data=.fields vs→vs[0]? = some a0→vs[1]? = some .none→Exc h a cls none [a]
 | ent {oe oT:Obj} {vs ts:Array Value} {a0 fl:Value} {T:Addr}:h.get? a=some oe→oe.cls=cls→oe.data=.fields vs→vs[0]? = some a0→vs[1]? = some (.ref T)→T≠a→h.get? T=some oT→oT.data=.fields ts→ts[3]? = some fl→Exc h a cls (some fl) [a,T]
def XEk (p:Option Value→Addr→Prop) (X:Cx) (E:XK):Value→Shared→Prop:=fun e s=>∃ (a L:Addr) (cls:Value) (σ:St) (H:Hp) (fl:Option Value) (S:List Addr) (env0:Env) (rest:List Env),e=.ref a∧X.stack=env0::rest∧env0.frame=some L∧X.env.frame=some L∧
 Inv X [] σ H s∧Exc s.heap a cls fl S∧p fl L∧(∀ b∈S,Loose X [] H b)∧E cls none H
def XE:Cx→XK→Value→Shared→Prop:=XEk fun _ _=>True
def XHeld:Cx→XK→Value→Shared→Prop:=XEk fun fl L=>fl=some (rawInt L)
theorem XEk.imp {p q:Option Value→Addr→Prop} {X:Cx} {E:XK} {e:Value} {s:Shared} (h:XEk p X E e s) (k:∀ fl L,p fl L→q fl L):XEk q X E e s:=by
 obtain⟨a,L,cls,σ,H,fl,S,env0,rest,h1,h2,h3,h4,h5,h6,h7,h8⟩:=h
 exact⟨a,L,cls,σ,H,fl,S,env0,rest,h1,h2,h3,h4,h5,h6,k _ _ h7,h8⟩
theorem noteFrame_congr {e:Value} {env env':Env} (h:env.frame=env'.frame):noteFrame e env=noteFrame e env':=by
 unfold noteFrame PySem.frameOf
 rw [h]
section
variable {P:Program} {w:World} {H:Hp} {h:Heap} {a:Addr} {o:HO}
theorem ObjOk.there (x:ObjOk P w H h a o):∃ ob,h.get? a=some ob:=by
 induction o with
 | lst xs=>obtain⟨_,_,_,_,e⟩:=x; exact⟨_,e⟩
 | tup xs=>obtain⟨_,_,_,o,e,_⟩:=x; exact⟨_,e⟩
 | dK kvs=>obtain⟨_,_,_,_,o,_,_,e,_⟩:=x; exact⟨_,e⟩
 | dT kvs=>obtain⟨_,_,_,_,o,_,_,e,_⟩:=x; exact⟨_,e⟩
 | set S n=>obtain⟨o,_,_,_,e,_⟩:=x; exact⟨_,e⟩
 | ins C dx fs=>obtain⟨_,_,_,e,_⟩:=x; exact⟨_,e⟩
 | own y=>exact x
 | xd fs=>obtain⟨_,⟨o,_,_,e,_⟩,_⟩:=x; exact⟨_,e⟩
 | met f y=>exact⟨_,x⟩
 | rng lo hi=>obtain⟨_,_,_,e⟩:=x; exact⟨_,e⟩
 | frz o u ih=>exact⟨_,x.1⟩
 | tbl ps=>exact⟨_,x⟩
 | ext φ=>exact x.2.1
end
section
variable {X:Cx} {pins:List (Addr×Obj)} {σ:List (Option V)} {H:Hp} {s:Shared} {h':Heap}
theorem Inv.loose {b:Addr} (I:Inv X pins σ H s) (e:s.heap.get? b=none):Loose X pins H b:=by
 have no:∀ {c:Addr} {o:Obj},s.heap.get? c=some o→c≠b:=fun q z=>by rw [z,e] at q; cases q
 refine⟨?_,?_,?_,fun x c hc=>?_,fun p hp=>no (I.pin p hp).1⟩
 ·cases q:H b with
  | none=>rfl
  | some o=>
   obtain⟨ob,z⟩:=ObjOk.there (I.hok b o q)
   exact absurd rfl (no z)
 ·by_cases hx:b∈X.ex
  ·exact .inl hx
  ·refine .inr ?_
   cases q:X.s₀.heap.get? b with
   | none=>rfl
   | some o=>
    obtain⟨o',z⟩:=I.base.there b o q hx
    exact absurd rfl (no z)
 ·obtain⟨m,⟨o,_,_,ho,_⟩,_⟩:=I.loc
  exact(no ho).symm
 ·obtain⟨v,o,ho,_⟩:=I.cell x c hc
  exact no ho
theorem note_after {a:Addr} {cls a0 fl:Value} {S:List Addr} {h':Heap} (I:Inv X [] σ H s) (hS:∀ b∈S,Loose X [] H b) (ha:a∈S)
  (st:(PySem.W.hideAll s.heap (S++frs X.stack)).StaysIn h') (tr:h'.TracedAtW (PySem.W.hideAll s.heap (S++frs X.stack)) a cls a0 fl) (up:∀ b o,s.heap.get? b=some o→(∀ vs,o.data≠.fields vs)→∃ sl,h'.get? b=some {o with slots:=sl}):∃ S',Inv X [] σ H {s with heap:=h'}∧Exc h' a cls (some fl) S'∧∀ b∈S',Loose X [] H b:=by
 have sl:∀ b o,s.heap.get? b=some o→b∈frs X.stack→∃ w,h'.get? b=some {o with slots:=w}:=fun b o e hb=>by
  obtain⟨_,o',e',nf⟩:=I.stack.mem hb
  rw [e] at e'; cases e'
  exact up b o e nf
 have kp:∀ b o,s.heap.get? b=some o→b∉S→b∉frs X.stack→h'.get? b=some o:=fun b o e n1 n2=>st b o (PySem.W.hideAll_get _ e fun z=>(List.mem_append.mp z).elim n1 n2)
 have I':Inv X [] σ H {s with heap:=h'}:=I.fly (t':=s.toks) hS kp sl
 obtain⟨oe,vs,T,oT,ts,he,⟨hc,h0⟩,hd,h1,hnT,hTe,hT,hdT,h3⟩:=tr
 refine⟨[a,T],I',.ent he hc hd h0 h1 hTe hT hdT h3,fun b hb=>?_⟩
 rcases List.mem_cons.mp hb with rfl | hb
 ·exact hS _ ha
 ·rw [List.mem_singleton.mp hb]
  by_cases h1:T∈S
  ·exact hS _ h1
  ·cases q:s.heap.get? T with
   | none=>exact I.loose q
   | some o=>
    by_cases h2:T∈frs X.stack
    ·obtain⟨_,o',e',nf⟩:=I.stack.mem h2
     rw [q] at e'; cases e'
     obtain⟨w,z⟩:=sl T o q h2
     rw [hT] at z; cases z
     exact absurd hdT (nf ts)
    ·rw [PySem.W.hideAll_get _ q fun z=>(List.mem_append.mp z).elim h1 h2] at hnT; cases hnT
theorem XE.note {E:XK} {e:Value} {EE:Value→Shared→Prop} (h:XE X E e s):wpAny (model X.prog X.w) X.A (noteFrame e X.env) (fun _ s'=>XHeld X E e s') EE s:=by
 obtain⟨a,L,cls,σ,H,fl,S,env0,rest,rfl,hs,hf0,hf,I,ex,hp,hS,hE⟩:=h
 rw [noteFrame_congr (hf.trans hf0.symm)]
 have hfr:X.A.frames=some (env0::rest):=by rw [I.ok.frames,hs]
 have hin:∀ env∈X.stack,∀ b,env.frame=some b→b∈S++frs X.stack:=fun env he b hb=>List.mem_append_right _ (List.mem_filterMap.mpr ⟨env,he,hb⟩)
 have hl:s.heap.FunFrames (PySem.W.hideAll s.heap (S++frs X.stack)) (env0::rest):=by rw [← hs]; exact PySem.W.funFrames_hide I.stack hin
 have hkb:(PySem.W.hideAll s.heap (S++frs X.stack)).StaysIn s.heap:=fun b o q=>PySem.W.of_hideAll _ q
 have fin:∀ {h':Heap} {a0:Value},a∈S→Heap.NotedW (PySem.W.hideAll s.heap (S++frs X.stack)) (env0::rest) a cls a0 (rawInt L) s.heap h'→XHeld X E (.ref a) {s with heap:=h'}:=fun {h' a0} ha hN=>by
  obtain⟨st,_,tr,up⟩:=hN
  obtain⟨S',I',ex',hS'⟩:=note_after I hS ha st tr up
  exact⟨a,L,cls,σ,H,_,S',env0,rest,rfl,hs,hf0,hf,I',ex',rfl,hS',hE⟩
 cases ex with
 | made he hc hd h0 h1=>
  subst hc
  unfold noteFrame
  simp only [hf0]
  refine wpAny_bind (wpAny_field he hd h1 ?_)
  rw [if_neg (by decide)]
  refine wpAny_entryW hfr hl hf0 he hkb (PySem.W.hideAll_none _ (by simp)) hd (Array.getElem?_eq_some_iff.mp h1).1 h0 fun h' hN=>fin (by simp) hN
 | @ent oe oT vs ts a0 fl T he hc hd h0 h1 hTa hT hdT h3=>
  by_cases hb:(fl==rawInt L)=true
  ·obtain rfl:=eq_of_beq hb
   exact wpAny_noteFrame_againW (base:=PySem.W.hideAll s.heap [T]) hf0 ⟨oe,vs,T,oT,ts,he,⟨hc,h0⟩,hd,h1,PySem.W.hideAll_none _ (by simp),hTa,hT,hdT,h3⟩ ⟨a,L,cls,σ,H,_,_,env0,rest,rfl,hs,hf0,hf,I,.ent he hc hd h0 h1 hTa hT hdT h3,rfl,hS,hE⟩
  ·have h3s:3<ts.size:=(Array.getElem?_eq_some_iff.mp h3).1
   unfold noteFrame
   simp only [hf0]
   refine wpAny_bind (wpAny_field he hd h1 ?_)
   rw [if_pos (show (Value.ref T != Value.none)=true from by simp)]
   refine wpAny_bind (wpAny_field hT hdT h3 ?_)
   rw [if_neg hb]
   refine wpAny_bind (wpAny_setField hT hdT h3s ?_)
   have other:∀ b,b≠T→(s.heap.update T (Obj.mapFields (·.setIfInBounds 3 Value.none))).get? b=s.heap.get? b:=fun b n=>Heap.get?_update_other _ _ (Ne.symm n)
   have nT:∀ b∈frs X.stack,b≠T:=fun b hb z=>by
    obtain⟨_,o',e',nf⟩:=I.stack.mem hb
    rw [z,hT] at e'; cases e'
    exact nf ts hdT
   have I1:=I.fly (t':=s.toks) (h':=s.heap.update T (Obj.mapFields (·.setIfInBounds 3 Value.none))) hS (fun b o q n _=>by rw [other b (fun z=>n (by simp [z]))]; exact q) fun b o q hb=>⟨o.slots,by rw [other b (nT b hb)]; exact q⟩
   generalize hh1:s.heap.update T (Obj.mapFields (·.setIfInBounds 3 Value.none))=h1' at other I1 ⊢
   have he1:h1'.get? a=some oe:=(other a (Ne.symm hTa)).trans he
   have hin':∀ env∈X.stack,∀ b,env.frame=some b→b∈[a,T]++frs X.stack:=fun env he b hb=>List.mem_append_right _ (List.mem_filterMap.mpr ⟨env,he,hb⟩)
   have hl1:h1'.FunFrames (PySem.W.hideAll h1' ([a,T]++frs X.stack)) (env0::rest):=by rw [← hs]; exact PySem.W.funFrames_hide I1.stack hin'
   subst hc
   refine wpAny_entryW (s:={s with heap:=h1'}) hfr hl1 hf0 he1 (fun b o q=>PySem.W.of_hideAll _ q) (PySem.W.hideAll_none _ (by simp)) hd (Array.getElem?_eq_some_iff.mp h1).1 h0 fun h' hN=>?_
   obtain⟨st,_,tr,up⟩:=hN
   obtain⟨S',I',ex',hS'⟩:=note_after I1 hS (by simp) st tr up
   exact⟨a,L,oe.cls,σ,H,_,S',env0,rest,rfl,hs,hf0,hf,I',ex',rfl,hS',hE⟩
end
section
variable {X:Cx} {E:XK} {e:Value} {s:Shared} {EE:Value→Shared→Prop} {M:Model}
theorem XEk.setFl {p:Option Value→Addr→Prop} {A:Around} {f:Option Addr} (h:XEk p X E e s) (hp:∀ fl L,p fl L→fl≠none) :
  wpAny M A (setFlight e f) (fun _ s'=>XEk (fun fl _=>fl=some (f.elim Value.none fun f=>rawInt f)) X E e s') EE s:=by
 obtain⟨a,L,cls,σ,H,fl,S,env0,rest,rfl,hs,hf0,hf,I,ex,hp',hS,hE⟩:=h
 cases ex with
 | made=>exact absurd rfl (hp _ _ hp')
 | @ent oe oT vs ts a0 fl T he hc hd h0 h1 hTa hT hdT h3=>
  have h3s:3<ts.size:=(Array.getElem?_eq_some_iff.mp h3).1
  unfold setFlight
  refine wpAny_bind (wpAny_field he hd h1 ?_)
  rw [if_pos (show (Value.ref T != Value.none)=true from by simp)]
  refine wpAny_setField hT hdT h3s ?_
  have other:∀ b,b≠T→(s.heap.update T (Obj.mapFields (·.setIfInBounds 3 (f.elim Value.none fun f=>rawInt f)))).get? b=s.heap.get? b:=fun b n=>Heap.get?_update_other _ _ (Ne.symm n)
  have self:=Heap.get?_update_self (Obj.mapFields (·.setIfInBounds 3 (f.elim Value.none fun f=>rawInt f))) hT (Obj.isFreed_of_fields (Obj.data_mapFields hdT _))
  have I':=I.fly (t':=s.toks) (h':=s.heap.update T (Obj.mapFields (·.setIfInBounds 3 (f.elim Value.none fun f=>rawInt f)))) hS (fun b o q n _=>by rw [other b (fun z=>n (by simp [z]))]; exact q) fun b o q hb=>by
   have n:b≠T:=fun z=>by
    obtain⟨_,o',e',nf⟩:=I.stack.mem hb
    rw [z,hT] at e'; cases e'
    exact nf ts hdT
   exact⟨o.slots,by rw [other b n]; exact q⟩
  exact⟨a,L,cls,σ,H,_,_,env0,rest,rfl,hs,hf0,hf,I',.ent ((other a (Ne.symm hTa)).trans he) hc hd h0 h1 hTa self (Obj.data_mapFields hdT _) (by simp [h3s]),rfl,hS,hE⟩
theorem XHeld.hasTb {Q:Value→Shared→Prop} {A:Around} (h:XHeld X E e s) (q:∀ v,(v==Value.none)=false→Q v s):wpAny M A (field e 1) Q EE s:=by
 obtain⟨a,L,cls,σ,H,fl,S,env0,rest,rfl,hs,hf0,hf,I,ex,hp',hS,hE⟩:=h
 cases ex with
 | made=>cases hp'
 | ent he hc hd h0 h1=>exact wpAny_field he hd h1 (q _ (by simp))
theorem XHeld.passAny {α:Type} {A:Around} {env:Env} {what:String} {Q:α→Shared→Prop} (h:XHeld X E e s) (k:∀ s',XE X E e s'→EE e s'):wpAny M A (PySem.passOn what e env:Sem α) Q EE s:=by
 unfold PySem.passOn
 refine wpAny_bind (h.hasTb fun v hv=>?_)
 rw [hv]
 simp only [Bool.false_eq_true,if_false]
 exact wpAny_bind (wpAny_mono (XEk.setFl (f:=env.frame) h fun fl L z=>by rw [z]; simp) (fun _ s' z=>wpAny_throw (k s' (XEk.imp z fun _ _ _=>trivial))) fun _ _ z=>z)
end
def Framed (X:Cx):Prop:=∃ (L:Addr) (env0:Env) (rest:List Env),X.stack=env0::rest∧env0.frame=some L∧X.env.frame=some L
abbrev Cx.exc (X:Cx) (E:XK):Cx:=X.wish (XE X E)
theorem framed_of {CX:CXT} {P:Program} {w:World} {K:PySem.W.Frag} {mg:Str→Option Value} {base:Heap} {N:List Str} {qual:Str} {scope:Scope} {f:Addr} {cd:Value} {A:Around} {outer:List Env} {s:Shared} {H:Hp} {E:XK}:Framed (cxOf CX P w K mg base N qual scope f cd A outer s H E):=⟨_,_,_,rfl,rfl,rfl⟩
section
variable {X:Cx} {n:Nat} {N':List Str} {scope:Scope} {elt tg iter:Expr} {pos:Pos} {pins:List (Addr×Obj)} {σ:St} {H2:Hp} {s2:Shared} {cl:List (Str×Addr)}
theorem comp_fails {E0:XK} {C:Addr} {fp:List Addr} {x:Value} {s':Shared} (I2:Inv X pins σ H2 s2) (f2:∀ b∈fp,FpOk X pins H2 b) (fr:Framed X) (h:XHeld (cxComp X N' scope cl C fp s2 H2) E0 x s') :
  ∃ m,s'.heap.Ns C m∧∀ h',Heap.SameBut C s'.heap h'→∀ cenv:Env,cenv.locals=C→wpAny (model X.prog X.w) X.A (PySem.passOn "comprehension.variables-let-go" x cenv:Sem Value) (fun _ _=>False) (XE X E0) {s' with heap:=h'}:=by
 obtain⟨a,L,cls,σ',H',fl,S,env0,rest,rfl,hs,hf0,hf,I',ex,hp,hS,hE⟩:=h
 obtain⟨m,hn,_⟩:=I'.loc
 refine⟨m,hn,fun h' sb cenv hc=>?_⟩
 have I0:Inv X [] σ H2 s2:=I2.pins_of fun p hp=>by simp at hp
 have un:Un (frs X.stack) fp H2 H' s2.heap s'.heap:=I'.base
 have IX:Inv X [] σ H' s':=I0.call' (ch:=fp) I'.os un I'.hok I'.bare fun b hb=>by
  obtain⟨f0,f1,ff,f3,f4,f5⟩:=f2 b hb
  exact⟨f3,f1,f4,fun p hp=>f5 p (List.mem_append_left _ (by simpa using hp))⟩
 have lo:∀ b∈S,Loose X [] H' b:=fun b hb=>by
  obtain⟨u,nw,_,_,_⟩:=hS b hb
  rcases nw with z | z
  ·obtain⟨f0,f1,ff,f3,f4,f5⟩:=f2 b z
   exact⟨u,f3.imp id Heap.get?_none_of_le,Ne.symm (Ne.symm f1),f4,fun p hp=>f5 p (List.mem_append_left _ (by simpa using hp))⟩
  ·obtain⟨_,l2,l3,l4,l5⟩:=I0.loose z
   exact⟨u,l2,l3,l4,l5⟩
 have nC:∀ b∈S,b≠C:=fun b hb=>(hS b hb).loc
 have lC:s2.heap.objs.size≤C:=I'.ok.above
 have cL:Loose X [] H' C:=by
  obtain⟨_,l2,l3,l4,l5⟩:=I0.loose (Heap.get?_none_of_le lC)
  exact⟨I'.free,l2,l3,l4,l5⟩
 have nF:C∉frs X.stack:=fun z=>by
  obtain⟨_,o,e,_⟩:=I2.stack.mem z
  exact absurd (Heap.lt_size e) (Nat.not_lt.mpr lC)
 have IY:Inv X [] σ H' {s' with heap:=h'}:=IX.fly (t':=s'.toks) (S:=[C]) (fun b hb=>by rw [List.mem_singleton.mp hb]; exact cL) (fun b o q n1 _=>(sb.2 b (fun z=>n1 (by simp [z]))).trans q) fun b o q hb=>⟨o.slots,(sb.2 b (fun z=>nF (by rw [← z]; exact hb))).trans q⟩
 have exY:Exc h' a cls fl S:=by
  cases ex with
  | made he hc hd h0 h1=>exact .made ((sb.2 a (nC a (by simp))).trans he) hc hd h0 h1
  | @ent oe oT vs ts a0 fl T he hc hd h0 h1 hTa hT hdT h3=>exact .ent ((sb.2 a (nC a (by simp))).trans he) hc hd h0 h1 hTa ((sb.2 T (nC T (by simp))).trans hT) hdT h3
 have hX:XHeld X E0 (.ref a) {s' with heap:=h'}:=⟨a,L,cls,σ,H',fl,S,env0,rest,rfl,hs,hf0,hf,IY,exY,hp,lo,hE⟩
 exact hX.passAny fun s'' z=>z
end
structure RoomU (k:Nat) (A:Around):Prop where
 gd:A.guards=some []
 dp:A.depth+3*k+5<recursionLimit
 un:A.units+16*k+200<cLine
structure FnOkU (P:Program) (w:World) (K:PySem.W.Frag) (mg:Str→Option Value) (base:Heap) (CX:CXT) (k:Nat) (f:Addr) (fd:FuncData) (ps:List Str) (sp:Sp):Prop where
 len:∀ vs H Q E,sp vs H Q E→vs.length=ps.length
 run:∀ (A:Around) (outer:List Env) (s:Shared) (H:Hp) (args:Args) (us:List Value) (vs:List V) (Q:VK) (E:XK),RoomU k A→Env0 P w K mg base A outer s H→BindsTo s fd args (ps.zip us)→Vals vs us→sp vs H Q E→
  codeAny (model P w) A (.call (.ref f) args) (CR CX outer P w H s Q E) s
section
variable {X:Cx} {pins:List (Addr×Obj)} {σ:St} {H:Hp} {s:Shared}
end
end L2
set_option maxHeartbeats 8000000
namespace L2
open PySem PySem.Spec PyProof.Rows
structure ExcLook (K:PySem.W.Frag) (C:Addr):Prop where
 ga:PySem.W.findIn K (.ref C) "__getattribute__"=some (some (.builtin "BaseException.__getattribute__"))
 gn:PySem.W.findIn K (.ref C) "__getattr__"=some none
 cl:PySem.W.findIn K (.ref C) "__class__"=some (some (.builtin "object.__class__"))
 mb:PySem.W.mroIn K C (.type "BaseException")=some true
 mo:PySem.W.mroIn K C (.type "object")=some true
 ty:(PySem.W.clsIn K C).isSome=true
section
variable {prog:Program} {w:World} {A:Around} {E:Value→Shared→Prop} {h:Heap} {g:Array GenState} {d:Drawn} {t:Nat} {os:OsState} {a C:Addr} {o:Obj} {K:PySem.W.Frag}
end
end L2
set_option maxHeartbeats 4000000
namespace L2
open PySem PySem.Spec PyProof.Rows
section
variable {X:Cx}
end
section
variable {κ:Type} [DecidableEq κ]
def valV (kvs:List (κ×V)) (k:κ):Option V:=(kvs.find? fun kv=>decide (kv.1=k)).map (·.2)
def putK (kvs:List (κ×V)) (k:κ) (v:V):List (κ×V):=
 if (kvs.any fun kv=>decide (kv.1=k))=true then kvs.map (fun kv=>if kv.1=k then (kv.1,v) else kv) else kvs++[(k,v)]
theorem valV_pos {p:κ×V} {r:List (κ×V)} {k:κ} (e:p.1=k):valV (p::r) k=some p.2:=by simp [valV,List.find?_cons,e]
theorem valV_neg {p:κ×V} {r:List (κ×V)} {k:κ} (e:¬ p.1=k):valV (p::r) k=valV r k:=by simp [valV,List.find?_cons,e]
theorem valV_any (k:κ):∀ kvs:List (κ×V),(kvs.any fun kv=>decide (kv.1=k))=(valV kvs k).isSome
 | []=>rfl
 | p::r=>by
  rw [List.any_cons]
  by_cases e:p.1=k
  ·simp only [valV_pos e,decide_eq_true e,Bool.true_or,Option.isSome_some]
  ·rw [valV_neg e,decide_eq_false e,Bool.false_or]; exact valV_any k r
theorem valV_map (k j:κ) (y:V):∀ kvs:List (κ×V),valV (kvs.map fun kv=>if kv.1=k then (kv.1,y) else kv) j=(valV kvs j).map fun x=>if j=k then y else x
 | []=>rfl
 | p::r=>by
  have ih:=valV_map k j y r
  rw [List.map_cons]
  by_cases h:p.1=k
  ·rw [if_pos h]
   by_cases e:p.1=j
   ·rw [valV_pos (p:=(p.1,y)) e,valV_pos e,Option.map_some,if_pos (e.symm.trans h)]
   ·rw [valV_neg (p:=(p.1,y)) e,valV_neg e,ih]
  ·rw [if_neg h]
   by_cases e:p.1=j
   ·rw [valV_pos (p:=p) e,valV_pos e,Option.map_some,if_neg (fun z=>h (e.trans z))]
   ·rw [valV_neg (p:=p) e,valV_neg e,ih]
theorem valV_snoc (k j:κ) (y:V):∀ kvs:List (κ×V),valV kvs k=none→valV (kvs++[(k,y)]) j=if j=k then some y else valV kvs j
 | [],_=>by
  by_cases e:k=j
  ·rw [if_pos e.symm]; exact valV_pos (p:=(k,y)) e
  ·rw [if_neg (fun z=>e z.symm)]; exact valV_neg (p:=(k,y)) e
 | p::r,hn=>by
  rw [List.cons_append]
  have hk:¬ p.1=k:=fun z=>by rw [valV_pos z] at hn; cases hn
  rw [valV_neg hk] at hn
  have ih:=valV_snoc k j y r hn
  by_cases e:p.1=j
  ·rw [valV_pos e,valV_pos e,if_neg (fun z=>hk (e.trans z))]
  ·rw [valV_neg e,valV_neg e,ih]
theorem valV_put (kvs:List (κ×V)) (k j:κ) (y:V):valV (putK kvs k y) j=if j=k then some y else valV kvs j:=by
 unfold putK
 by_cases a:(kvs.any fun kv=>decide (kv.1=k))=true
 ·rw [if_pos a,valV_map]
  rw [valV_any] at a
  by_cases e:j=k
  ·obtain⟨x,hx⟩:=Option.isSome_iff_exists.mp a
   rw [if_pos e,e,hx,Option.map_some,if_pos rfl]
  ·rw [if_neg e]
   cases valV kvs j with
   | none=>rfl
   | some x=>rw [Option.map_some,if_neg e]
 ·rw [if_neg a]
  refine valV_snoc k j y kvs ?_
  rw [valV_any] at a
  cases q:valV kvs k with
  | none=>rfl
  | some x=>rw [q] at a; exact(a rfl).elim
theorem length_putK (kvs:List (κ×V)) (k:κ) (v:V):(putK kvs k v).length≤kvs.length+1:=by
 unfold putK
 split
 ·rw [List.length_map]; omega
 ·rw [List.length_append,List.length_cons,List.length_nil]; omega
theorem RelO.isSome_eq {o:Option V} {u:Option Value} (r:RelO o u):o.isSome=u.isSome:=by
 cases o with
 | none=>cases u with
  | none=>rfl
  | some _=>exact(show False from r).elim
 | some _=>cases u with
  | none=>exact(show False from r).elim
  | some _=>rfl
theorem KV.val {kvs:List (κ×V)} {vs:List (κ×Value)} (r:KV kvs vs) (k:κ):RelO (valV kvs k) (valueAt vs k):=by
 unfold KV at r
 induction r with
 | nil=>exact True.intro
 | @cons p q ps qs h t ih=>
  obtain⟨h1,h2⟩:=h
  by_cases e:p.1=k
  ·have e':q.1=k:=h1.symm.trans e
   have b:valueAt (q::qs) k=some q.2:=by simp [valueAt,List.find?_cons,e']
   rw [valV_pos e,b]; exact h2
  ·have e':¬ q.1=k:=fun z=>e (h1.trans z)
   have b:valueAt (q::qs) k=valueAt qs k:=by simp [valueAt,List.find?_cons,e']
   rw [valV_neg e,b]; exact ih
theorem KV.any {kvs:List (κ×V)} {vs:List (κ×Value)} (r:KV kvs vs) (k:κ):(kvs.any fun kv=>decide (kv.1=k))=vs.any fun kv=>decide (kv.1=k):=by
 unfold KV at r
 induction r with
 | nil=>rfl
 | cons h t ih=>rw [List.any_cons,List.any_cons,ih,h.1]
theorem KV.repl {kvs:List (κ×V)} {vs:List (κ×Value)} (r:KV kvs vs) (k:κ) {y:V} {u:Value} (ry:RelV y u) :
  KV (kvs.map fun kv=>if kv.1=k then (kv.1,y) else kv) (vs.map fun kv=>if kv.1=k then (kv.1,u) else kv):=by
 unfold KV at r ⊢
 induction r with
 | nil=>exact .nil
 | @cons p q ps qs h t ih=>
  rw [List.map_cons,List.map_cons]
  refine .cons ?_ ih
  obtain⟨h1,h2⟩:=h
  by_cases e:p.1=k
  ·rw [if_pos e,if_pos (h1.symm.trans e)]; exact⟨h1,ry⟩
  ·rw [if_neg e,if_neg (fun z=>e (h1.trans z))]; exact⟨h1,h2⟩
theorem KV.put {kvs:List (κ×V)} {vs:List (κ×Value)} (r:KV kvs vs) (k:κ) {y:V} {u:Value} (ry:RelV y u):KV (putK kvs k y) (stored vs k u):=by
 unfold putK stored
 rw [r.any k]
 by_cases e:(vs.any fun kv=>decide (kv.1=k))=true
 ·rw [if_pos e,if_pos e]; exact r.repl k ry
 ·rw [if_neg e,if_neg e]; exact Paired.snoc r ⟨rfl,ry⟩
theorem KV.keys {kvs:List (κ×V)} {vs:List (κ×Value)} (r:KV kvs vs):kvs.map (·.1)=vs.map (·.1):=by
 unfold KV at r
 induction r with
 | nil=>rfl
 | cons h t ih=>rw [List.map_cons,List.map_cons,ih,h.1]
theorem KV.length {kvs:List (κ×V)} {vs:List (κ×Value)} (r:KV kvs vs):kvs.length=vs.length:=Paired.length r
end
theorem kV_is {P:Program} {w:World} {k:Key} {u:Value} (r:RelV (kV k) u):(mixKind P w).is k u=true:=by
 cases k with
 | inl i=>obtain⟨t,e⟩:=(show ∃ t,u=Value.int i t from r); subst e; exact mixKind_int P w i t
 | inr x=>obtain⟨t,e⟩:=(show ∃ t,u=Value.str x t from r); subst e; exact mixKind_str P w x t
theorem items_are {P:Program} {w:World}:∀ {ks:List Key} {us:List Value},Vals (ks.map kV) us→ItemsAre (mixKind P w) ks us
 | [],_,r=>by rw [List.map_nil] at r; cases r; exact .nil
 | k::ks,_,r=>by
  rw [List.map_cons] at r
  cases r with
  | cons h t=>exact .cons (kV_is h) (items_are t)
abbrev KT (H:Hp):List (List Key×V)→List (List Key×Addr×Value)→Prop:=Paired fun p q=>p.1=q.1∧H q.2.1=some (.tup (p.1.map kV))∧RelV p.2 q.2.2
theorem KT.val {H:Hp} {kvs:List (List Key×V)} {xs:List (List Key×Addr×Value)} (r:KT H kvs xs) (k:List Key):RelO (valV kvs k) ((atKey xs k).map (·.2)):=by
 induction r with
 | nil=>exact True.intro
 | @cons p q ps qs h t ih=>
  obtain⟨h1,_,h2⟩:=h
  by_cases e:p.1=k
  ·have e':q.1=k:=h1.symm.trans e
   have b:atKey (q::qs) k=some q.2:=by simp [atKey,List.find?_cons,e']
   rw [valV_pos e,b]; exact h2
  ·have e':¬ q.1=k:=fun z=>e (h1.trans z)
   have b:atKey (q::qs) k=atKey qs k:=by simp [atKey,List.find?_cons,e']
   rw [valV_neg e,b]; exact ih
theorem KT.repl {H:Hp} {kvs:List (List Key×V)} {xs:List (List Key×Addr×Value)} (r:KT H kvs xs) (k:List Key) {y:V} {u:Value} (ry:RelV y u) :
  KT H (kvs.map fun kv=>if kv.1=k then (kv.1,y) else kv) (xs.map (putAt k u)):=by
 induction r with
 | nil=>exact .nil
 | @cons p q ps qs h t ih=>
  rw [List.map_cons,List.map_cons]
  refine .cons ?_ ih
  obtain⟨h1,h2,h3⟩:=h
  unfold putAt
  by_cases e:p.1=k
  ·rw [if_pos e,if_pos (h1.symm.trans e)]; exact⟨h1,h2,ry⟩
  ·rw [if_neg e,if_neg (fun z=>e (h1.trans z))]; exact⟨h1,h2,h3⟩
theorem KT.put {H:Hp} {kvs:List (List Key×V)} {xs:List (List Key×Addr×Value)} (r:KT H kvs xs) (k:List Key) {b:Addr} {y:V} {u:Value} (hb:H b=some (.tup (k.map kV))) (ry:RelV y u) :
  KT H (putK kvs k y) (storedH xs k b u):=by
 have e:(kvs.any fun kv=>decide (kv.1=k))=(atKey xs k).isSome:=by
  rw [valV_any,(r.val k).isSome_eq,Option.isSome_map]
 unfold putK storedH
 rw [e]
 by_cases q:(atKey xs k).isSome=true
 ·rw [if_pos q,if_pos q]; exact r.repl k ry
 ·rw [if_neg q,if_neg q]; exact Paired.snoc r ⟨rfl,hb,ry⟩
theorem KT.keeps {H H':Hp} {kvs:List (List Key×V)} {xs:List (List Key×Addr×Value)} (r:KT H kvs xs) (ht:∀ b ys,H b=some (.tup ys)→H' b=some (.tup ys)):KT H' kvs xs:=
 Paired.mapP r fun _ _ z=>⟨z.1,ht _ _ z.2.1,z.2.2⟩
section
variable {P:Program} {w:World} {H:Hp} {h:Heap} {a:Addr}
theorem rd_of {u:HO} (ok:HOk P w H h) (e:Rd H a u):ObjOk P w H h a u:=e.ok ok
theorem dk_rd {kvs:List (Key×V)} (ok:HOk P w H h) (e:Rd H a (.dK kvs)):kvs.length≤sizeLine∧(a==sysModules)=false∧∃ vs,KV kvs vs∧h.DictOf (mixKind P w) a vs:=
 show ObjOk P w H h a (.dK kvs) from rd_of ok e
theorem dk_of {kvs:List (Key×V)} (ok:HOk P w H h) (e:H a=some (.dK kvs)):kvs.length≤sizeLine∧(a==sysModules)=false∧∃ vs,KV kvs vs∧h.DictOf (mixKind P w) a vs:=dk_rd ok (.inl e)
theorem key_of {ks:List Key} (ok:HOk P w H h) (e:H a=some (.tup (ks.map kV))):(tupleKind (mixKind P w)).is h ks a:=by
 obtain⟨_,its,r,o,h1,h2,n,h3⟩:=(show ObjOk P w H h a (.tup (ks.map kV)) from ok a _ e)
 exact⟨o,its.toArray,n,h1,h2,h3,by simpa using items_are r⟩
theorem dt_rd {kvs:List (List Key×V)} (ok:HOk P w H h) (e:Rd H a (.dT kvs)):kvs.length≤sizeLine∧(a==sysModules)=false∧
  ∃ xs,KT H kvs xs∧h.DictOfH (tupleKind (mixKind P w)) a xs:=by
 obtain⟨z,y,xs,r,o,es,ep,h1,h2,h3,h4,h5⟩:=(show ObjOk P w H h a (.dT kvs) from rd_of ok e)
 refine⟨z,y,xs,r,o,es,ep,h1,h2,h3,h4,fun x hx=>?_,h5⟩
 have all:∀ {l:List (List Key×V)} {m:List (List Key×Addr×Value)},KT H l m→∀ x∈m,(tupleKind (mixKind P w)).is h x.1 x.2.1:=by
  intro l m q
  induction q with
  | nil=>intro x hx; exact nomatch hx
  | @cons p q ps qs hq t ih=>
   intro x hx
   rcases List.mem_cons.mp hx with e | hx
   ·subst e
    exact key_of ok (by rw [← hq.1]; exact hq.2.1)
   ·exact ih x hx
 exact all r x hx
theorem dt_of {kvs:List (List Key×V)} (ok:HOk P w H h) (e:H a=some (.dT kvs)):kvs.length≤sizeLine∧(a==sysModules)=false∧
  ∃ xs,KT H kvs xs∧h.DictOfH (tupleKind (mixKind P w)) a xs:=dt_rd ok (.inl e)
end
def DGet (H:Hp) (a:Addr) (y:V) (r:Option V):Prop:=
 (∃ kvs k,Rd H a (.dK kvs)∧y=kV k∧r=valV kvs k)∨∃ kvs k b,Rd H a (.dT kvs)∧y=.ref b∧H b=some (.tup (k.map kV))∧r=valV kvs k
def DPut (H:Hp) (a:Addr) (y v:V) (H':Hp):Prop:=
 (∃ kvs k,H a=some (.dK kvs)∧y=kV k∧kvs.length<sizeLine∧H'=upd H a (.dK (putK kvs k v)))∨
 ∃ kvs k b,H a=some (.dT kvs)∧y=.ref b∧H b=some (.tup (k.map kV))∧kvs.length<sizeLine∧H'=upd H a (.dT (putK kvs k v))
theorem DGet.k {H:Hp} {a:Addr} {kvs:List (Key×V)} {k:Key} (e:H a=some (.dK kvs)):DGet H a (kV k) (valV kvs k):=.inl ⟨kvs,k,.inl e,rfl,rfl⟩
theorem DPut.k {H:Hp} {a:Addr} {kvs:List (Key×V)} {k:Key} {v:V} (e:H a=some (.dK kvs)) (hl:kvs.length<sizeLine):DPut H a (kV k) v (upd H a (.dK (putK kvs k v))):=.inl ⟨kvs,k,e,rfl,hl,rfl⟩
section
variable {X:Cx} {pins:List (Addr×Obj)} {σ:St} {H:Hp} {s:Shared} {a:Addr} {y v:V} {u r:Value} {o:Option V} {A:Around} {E:Value→Shared→Prop}
theorem Inv.big (I:Inv X pins σ H s):sysModules<s.heap.objs.size:=by
 have h:mainGlobals<s.heap.objs.size:=(I.mod.glob.keeps I.bk).lt
 exact Nat.lt_trans (by decide) h
theorem d_getItem {Q:Value→Shared→Prop} (hu:A.units+1<cLine) (I:Inv X pins σ H s) (g:DGet H a y (some v)) (ry:RelV y u) (h:∀ w' s',Inv X pins σ H s'→RelV v w'→Q w' s') :
  wpAny (model X.prog X.w) A (getItem (.ref a) u) Q E s:=by
 rcases g with ⟨kvs,k,e,ey,l⟩ | ⟨kvs,k,b,e,ey,eb,l⟩
 ·subst ey
  obtain⟨z,hd,vs,rel,dd⟩:=dk_rd I.hok e
  obtain⟨w',hw,rw'⟩:=RelO.some_of (v:=v) (o:=valueAt vs k) (by rw [l]; exact rel.val k)
  exact wpAny_getItem_of (kV_is ry) dd.mapOf hw (h w' _ (I.tok _) rw')
 ·subst ey
  cases (show u=Value.ref b from ry)
  obtain⟨z,hd,xs,rel,dd⟩:=dt_rd I.hok e
  obtain⟨w',hw,rw'⟩:=RelO.some_of (v:=v) (o:=(atKey xs k).map (·.2)) (by rw [l]; exact rel.val k)
  obtain⟨p,hp,hp2⟩:=Option.map_eq_some_iff.mp hw
  refine wpAny_getItem_heap (tupleKind_room_in1 hu) (key_of I.hok eb) dd hp ?_
  rw [hp2]
  exact h w' _ (I.tok _) rw'
theorem d_notIn {Q:Value→Shared→Prop} (hu:A.units+1<cLine) (I:Inv X pins σ H s) (g:DGet H a y o) (ry:RelV y u) (h:∀ s',Inv X pins σ H s'→Q (.bool (!o.isSome)) s') :
  wpAny (model X.prog X.w) A (compareOp .NotIn u (.ref a)) Q E s:=by
 rcases g with ⟨kvs,k,e,ey,l⟩ | ⟨kvs,k,b,e,ey,eb,l⟩
 ·subst ey
  obtain⟨z,hd,vs,rel,dd⟩:=dk_rd I.hok e
  refine wpAny_notIn_of (kV_is ry) hd dd.mapOf ?_
  rw [← (rel.val k).isSome_eq,← l]
  exact h _ (I.tok _)
 ·subst ey
  cases (show u=Value.ref b from ry)
  obtain⟨z,hd,xs,rel,dd⟩:=dt_rd I.hok e
  refine wpAny_notIn_heap (tupleKind_room_in1 hu) (key_of I.hok eb) hd dd ?_
  have q:=(rel.val k).isSome_eq
  rw [Option.isSome_map] at q
  rw [← q,← l]
  exact h _ (I.tok _)
theorem d_write {h':Heap} {t':Nat} {ob:HO} (I:Inv X pins σ H s) (mu:Mut (H a)) (hs:Heap.SameBut a s.heap h') (he:∃ q,h'.get? a=some q) (new:ObjOk X.prog X.w (upd H a ob) h' a ob) :
  Inv X pins σ (upd H a ob) {s with heap:=h',toks:=t'}:=
 I.write (x:=a) (e:=a) mu (.inl rfl) (fun b q hb z=>(hs.2 b hb).trans z) he new
theorem dk_new {P:Program} {w:World} {H':Hp} {h':Heap} {kvs:List (Key×V)} {vs:List (Key×Value)} (z:kvs.length≤sizeLine) (hd:(a==sysModules)=false) (rel:KV kvs vs) (dd:h'.DictOf (mixKind P w) a vs) :
  ObjOk P w H' h' a (.dK kvs):=⟨z,hd,vs,rel,dd⟩
theorem d_setItem {H':Hp} {Q:Unit→Shared→Prop} (hu:A.units+1<cLine) (I:Inv X pins σ H s) (g:DPut H a y v H') (ry:RelV y u) (rv:RelV v r) (h:∀ s',Inv X pins σ H' s'→Q () s') :
  wpAny (model X.prog X.w) A (setItem (.ref a) u r) Q E s:=by
 rcases g with ⟨kvs,k,e,ey,l,eH⟩ | ⟨kvs,k,b,e,ey,eb,l,eH⟩
 ·subst ey eH
  obtain⟨z,hd,vs,rel,dd⟩:=dk_of I.hok e
  have hz:vs.length≤sizeLine:=by rw [← rel.length]; exact z
  have hl:(putK kvs k v).length≤sizeLine:=by have:=length_putK kvs k v; omega
  refine wpAny_setItem_pairs (hsz:=hz) (kV_is ry) dd fun h' dd' hs=>h _ ?_
  have he:∃ q,h'.get? a=some q:=let ⟨q,_,_,hq,_⟩:=dd'; ⟨q,hq⟩
  exact d_write I (by rw [e]; exact True.intro) hs he (dk_new hl hd (rel.put k rv) dd')
 ·subst ey eH
  cases (show u=Value.ref b from ry)
  obtain⟨z,hd,xs,rel,dd⟩:=dt_of I.hok e
  have hz:xs.length≤sizeLine:=by rw [← Paired.length rel]; exact z
  have hl:(putK kvs k v).length≤sizeLine:=by have:=length_putK kvs k v; omega
  refine wpAny_setItem_heap (hsz:=hz) (tupleKind_room_in1 hu) (key_of I.hok eb) dd fun h' dd' hs=>h _ ?_
  obtain⟨q,es,ep,hq,h2,h3,h4,_,h5⟩:=dd'
  refine d_write I (by rw [e]; exact True.intro) hs ⟨q,hq⟩ ⟨hl,hd,_,(rel.put k eb rv).keeps fun c ys ec=>?_,q,es,ep,hq,h2,h3,h4,h5⟩
  rw [upd_ne (ne_of ec e (fun z=>nomatch z))]
  exact ec
end
section
variable {X:Cx} {pins:List (Addr×Obj)} {σ:St} {H:Hp} {s:Shared} {a:Addr} {kvs:List (Key×V)} {k:Key} {u:Value} {A:Around} {E:Value→Shared→Prop}
end
def NoSl (i:Expr):Prop:=∀ ov iv,subscripted i false ov iv=operate [ov,iv] (getItem ov iv)
theorem subD_of {prog:Program} {w:World} {A:Around} {E:Value→Shared→Prop} {s:Shared} {env:Env} {value slice:Expr} {pos:Pos} {T id:String} {Q:Value→Shared→Prop}
  (hl:typeLookup (.type T) "__getitem__"=pure (some (.builtin id))) (hs:NoSl slice)
  (h:wpAny (model prog w) A (eval value env) (fun o s₁=>wpAny (model prog w) A (eval slice env) (fun i s₂=>s₂.TypeIs o T∧wpAny (model prog w) A (getItem o i) Q E s₂) E s₁) E s) :
  wpAny (model prog w) A (eval (.Subscript value slice pos) env) Q E s:=by
 refine Subscript_ (wpAny_mono h (fun o s₁ h₁=>wpAny_mono h₁ (fun i s₂ h₂=>?_) fun _ _ x=>x) fun _ _ x=>x)
 obtain⟨hT,h₂⟩:=h₂
 unfold subscriptTail
 refine wpAny_bind ?_
 rw [getitemInPython_of_ne hT.not_modules]
 refine wpAny_bind (wpAny_specialOf hT hl ?_)
 have fin:wpAny (model prog w) A (subscripted slice false o i) (fun r s₃=>wpAny (model prog w) A (letTemporaryGo value o r>>=fun _=>pure r) Q E s₃) E s₂:=by
  rw [hs o i]
  exact wpAny_operating (wpAny_mono h₂ (fun r s₃ h₃=>wpAny_bind (wpAny_letTemporaryGo (wpAny_pure h₃))) fun _ _ x=>x)
 first
  | exact wpAny_pure (wpAny_bind fin)
  | exact wpAny_bind (wpAny_pure (wpAny_bind fin))
  | exact wpAny_bind fin
theorem dict_typeIs {X:Cx} {pins:List (Addr×Obj)} {σ:St} {H:Hp} {s:Shared} {a:Addr} {y:V} {o:Option V} (I:Inv X pins σ H s) (g:DGet H a y o):s.TypeIs (.ref a) "dict":=by
 rcases g with ⟨kvs,k,e,_,_⟩ | ⟨kvs,k,b,e,_,_,_⟩
 ·obtain⟨_,_,vs,_,dd⟩:=dk_rd I.hok e
  exact dd.typeIs
 ·obtain⟨_,_,xs,_,dd⟩:=dt_rd I.hok e
  exact dd.typeIs
def tDGet (td ty:TE):TE:=fun σ H Q=>td σ H fun x H1=>ty σ H1 fun y H2=>∃ a v,x=.ref a∧DGet H2 a y (some v)∧Q v H2
def tDNotIn (ty td:TE):TE:=fun σ H Q=>ty σ H fun y H1=>td σ H1 fun x H2=>∃ a o,x=.ref a∧DGet H2 a y o∧Q (.bl (!o.isSome)) H2
def sDPut (td ty tv:TE):TS:=fun D σ H=>tv σ H fun v H1=>td σ H1 fun x H2=>ty σ H2 fun y H3=>∃ a H4,x=.ref a∧DPut H3 a y v H4∧D.nx σ H4
section
variable {X:Cx} {o i e value:Expr} {pos pos' tpos:Pos} {td ty tv:TE}
theorem pe_dget (hu:X.A.units+1<cLine) (ho:PE X o td) (hi:PE X i ty) (hs:NoSl i):PE X (.Subscript o i pos) (tDGet td ty):=by
 intro pins s σ H Q I h
 refine subD_of PySem.F.slot_dict_getitem.lookup hs (thn (ho pins s σ H _ I h) fun u s1 ⟨x,H1,I1,rx,q1⟩=>thn (hi pins s1 σ H1 _ I1 q1) fun iv s2 ⟨y,H2,I2,ry,a,v,ex,g,q2⟩=>?_)
 subst ex
 obtain rfl:u=Value.ref a:=rx
 exact⟨dict_typeIs I2 g,d_getItem hu I2 g ry fun w' s3 I3 rw'=>⟨v,H2,I3,rw',q2⟩⟩
theorem pc_dnotin (hu:X.A.units+1<cLine) (hi:PE X i ty) (ho:PE X o td):PC X .NotIn i o (tDNotIn ty td):=by
 intro pins s σ H Q I h
 refine thn (hi pins s σ H _ I h) fun iv s1 ⟨y,H1,I1,ry,q1⟩=>thn (ho pins s1 σ H1 _ I1 q1) fun u s2 ⟨x,H2,I2,rx,a,ov,ex,g,q2⟩=>?_
 subst ex
 obtain rfl:u=Value.ref a:=rx
 exact d_notIn hu I2 g ry fun s3 I3=>⟨.bl (!ov.isSome),H2,I3,rfl,q2⟩
theorem ps_dput (hu:X.A.units+1<cLine) (ho:PE X o td) (hi:PE X i ty) (hv:PE X value tv) (hs:swapsWith value (some (.Subscript o i pos')) pos.line X.env=pure false) :
  PS X (.Assign [.Subscript o i pos'] value pos) (sDPut td ty tv):=by
 intro pins s σ H D I h
 refine wpAny_Assign_Subscript (thn (hv pins s σ H _ I h) fun r s1 ⟨v,H1,I1,rv,q1⟩=>thn (ho pins s1 σ H1 _ I1 q1) fun u s2 ⟨x,H2,I2,rx,q2⟩=>thn (hi pins s2 σ H2 _ I2 q2) fun iv s3 ⟨y,H3,I3,ry,a,H4,ex,g,q3⟩=>?_) hs
 subst ex
 obtain rfl:u=Value.ref a:=rx
 exact d_setItem hu I3 g ry rv fun s4 I4=>⟨σ,H4,I4,q3⟩
end
theorem dk_empty {P:Program} {w:World} {H:Hp} (h:Heap) (hb:sysModules<h.objs.size):ObjOk P w H (h.push {cls:=.type "dict",data:=.dict #[]}) h.objs.size (.dK []):=
 ⟨Nat.zero_le _,beq_eq_false_iff_ne.mpr (Ne.symm (Nat.ne_of_lt hb)),[],.nil,Heap.DictOf.new h⟩
def tDNewK:TE:=fun _ H Q=>∀ p,H p=none→Q (.ref p) (upd H p (.dK []))
section
variable {X:Cx} {pos:Pos}
theorem pe_dnewK:PE X (.Dict [] [] pos) tDNewK:=fun pins s σ H Q I h=>
 wpAny_Dict_empty ⟨.ref s.heap.objs.size,_,I.laid (a:=s.heap.objs.size) (o:=.dK []) (t':=s.toks) (fun _ _ q=>Heap.get?_push_of_some _ q) (Nat.le_refl _) (dk_empty s.heap I.big),rfl,h _ (I.hok.fresh (Nat.le_refl _))⟩
end
structure M1 (X:Cx) (o:Expr) (m:Str) (apos:Pos) (e:Expr) (cpos:Pos):Prop where
 base:attributeBase o m X.env (eval o X.env)=eval o X.env
 few:((backTo cpos (starEach [e] X.env)).all (fun x=>!x.1)&&(backToKw cpos (keywordEach [] X.env)).all (fun x=>x.1.isSome)
  && decide (([e]:List Expr).length+([]:List Keyword).length+(if ([]:List Keyword).isEmpty then 0 else 1)<30))=true
 line:(apos.endLine==cpos.line)=true
 trees:backTo cpos (starEach [e] X.env)=[(false,eval e X.env)]
structure M2 (X:Cx) (o:Expr) (m:Str) (apos:Pos) (e f:Expr) (cpos:Pos):Prop where
 base:attributeBase o m X.env (eval o X.env)=eval o X.env
 few:((backTo cpos (starEach [e,f] X.env)).all (fun x=>!x.1)&&(backToKw cpos (keywordEach [] X.env)).all (fun x=>x.1.isSome)
  && decide (([e,f]:List Expr).length+([]:List Keyword).length+(if ([]:List Keyword).isEmpty then 0 else 1)<30))=true
 line:(apos.endLine==cpos.line)=true
 trees:backTo cpos (starEach [e,f] X.env)=[(false,eval e X.env),(false,eval f X.env)]
section
variable {X:Cx} {pins:List (Addr×Obj)} {σ:St} {H:Hp} {s:Shared} {a:Addr} {y d:V} {u r:Value} {o:Option V} {A:Around} {E:Value→Shared→Prop}
end
section
variable {X:Cx} {o e f:Expr} {apos cpos:Pos} {td ty tx:TE}
end
section
variable {X:Cx} {pins:List (Addr×Obj)} {σ:St} {H:Hp} {s:Shared} {a:Addr} {kvs:List (Key×V)} {A:Around} {E:Value→Shared→Prop}
end
section
variable {X:Cx} {pins:List (Addr×Obj)} {σ:St} {H:Hp} {s:Shared} {a:Addr} {y:V} {u:Value} {A:Around} {E:Value→Shared→Prop}
end
section
variable {κ:Type} [DecidableEq κ]
end
theorem codeAny_compLoop_if {prog:Program} {w:World} {A:Around} {R:Result→Shared→Prop} {s:Shared} {elt cnd target iter:Expr} {scope:Scope} {pos:Pos} {it acc:Value} {env:Env} (I:Nat→Shared→Prop)
  (turn:∀ n s,I n s→wpAny (model prog w) A (pyNext it) (fun r s1=>match r with
   | none=>R (.ok .next) s1
   | some v=>wpAny (model prog w) A (letOwnedTupleGo target it v) (fun _ s1'=>wpAny (model prog w) A (assign target env v) (fun _ s2=>
     wpAny (model prog w) A (isTrue cnd env (eval cnd env)) (fun b s3=>if b=true then wpAny (model prog w) A (eval elt env) (fun x s4=>
       wpAny (model prog w) A (call (.builtin "list.append") [acc,x]) (fun _ s5=>∃ m,m<n∧I m s5) (notedBy (model prog w) A env fun e s'=>R (.error e) s') s4) (notedBy (model prog w) A env fun e s'=>R (.error e) s') s3 else ∃ m,m<n∧I m s3) (notedBy (model prog w) A env fun e s'=>R (.error e) s') s2)
     (notedBy (model prog w) A env fun e s'=>R (.error e) s') s1') (notedBy (model prog w) A env fun e s'=>R (.error e) s') s1) (notedBy (model prog w) A env fun e s'=>R (.error e) s') s)
  (n:Nat) (h:I n s):codeAny (model prog w) A (.compLoop (.ListComp elt [⟨target,iter,[cnd],0⟩] scope pos) 0 it acc env) R s:=by
 refine codeAny_loop rfl I (fun n s hI=>?_) n h
 show wpAny _ A ((compTurn (.ListComp elt [⟨target,iter,[cnd],0⟩] scope pos) 0 it acc env).onRaise (fun x=>do noteFrame x env; theTreesLotGoes x)) _ _ s
 refine wpAny_noted ?_
 rw [compTurn_list]
 refine wpAny_bind (wpAny_standAt (wpAny_bind (wpAny_mono (turn n s hI) (fun r s1 h1=>?_) fun _ _ h'=>h')))
 cases r with
 | none=>exact wpAny_pure h1
 | some v=>
  refine wpAny_bind (wpAny_mono h1 (fun _ s1' h1'=>?_) fun _ _ h'=>h')
  refine wpAny_bind (wpAny_mono h1' (fun _ s2 h2=>wpAny_bind (wpAny_mono (wpAny_tests_one h2) (fun ok s3 h3=>?_) fun _ _ h'=>h')) fun _ _ h'=>h')
  cases ok with
  | true=>exact wpAny_bind (wpAny_bind (wpAny_mono h3 (fun x s4 h4=>wpAny_bind (wpAny_mono h4 (fun _ s5 h5=>wpAny_pure (wpAny_pure ⟨rfl,h5⟩)) fun _ _ h'=>h')) fun _ _ h'=>h'))
  | false=>exact wpAny_bind (wpAny_pure (wpAny_pure ⟨rfl,h3⟩))
def CompOkF (n:Nat) (J:It) (g:TG) (tc:TT) (te:TE) (σ:St) (H:Hp) (Q:VK):Prop:=
 ∃ W:Nat→Nat→List V→St→Hp→Prop,(∃ m,W 0 m [] (List.replicate n none++σ) H)∧∀ i m ys σ' H,W i m ys σ' H→
  (J.stop i H∧∀ D,H D=none→Q (.ref D) (upd H D (.lst ys)))∨
  (J.go i H∧ys.length<sizeLine∧∀ x H',J.yld i H x H'→g x σ' H' fun σ2 H2=>tc σ2 H2 fun b H3=>if b=true then ∃ N:VK,te σ2 H3 N∧∀ v H4,N v H4→∃ m',m'<m∧W (i+1) m' (ys++[v]) σ2 H4 else ∃ m',m'<m∧W (i+1) m' ys σ2 H3)
def tCompF (n:Nat) (wi:TI) (g:InBlock TG) (tc:InBlock TT) (te:InBlock TE):TE:=fun σ H Q=>wi σ H fun J H1=>∀ cl C ex s Hc,CompOkF n J (g cl C ex s Hc) (tc cl C ex s Hc) (te cl C ex s Hc) σ H1 Q
section
variable {X:Cx} {n:Nat} {N':List Str} {scope:Scope} {elt cnd tg iter:Expr} {pos:Pos} {pins:List (Addr×Obj)} {σ:St} {H2:Hp} {s2:Shared} {cl:List (Str×Addr)}
theorem comp_blockF {E0:XK} {it:Addr} {fp:List Addr} {tn:Nat→Heap→Prop} {J:It} {g:InBlock TG} {tc:InBlock TT} {te:InBlock TE} {Q:VK} {E:Value→Shared→Prop}
  (hc:X.calm=true) (S:CompScope n N' X scope) (c1:∀ x c,cl.lookup x=some c→X.env.cells.lookup x=some c) (c2:∀ x∈scope.names,x.2=.free→∃ c,cl.lookup x.1=some c)
  (I2:Inv X pins σ H2 s2) (T:Turn X.prog X.w X.K tg J fp it tn) (st2:tn 0 s2.heap) (f2:∀ b∈fp,FpOk X pins H2 b)
  (hg:∀ cl C ex s H,PG ((cxComp X N' scope cl C ex s H).exc E0) tg (g cl C ex s H)) (hcn:∀ cl C ex s H,PT ((cxComp X N' scope cl C ex s H).exc E0) cnd (tc cl C ex s H)) (he:∀ cl C ex s H,PE ((cxComp X N' scope cl C ex s H).exc E0) elt (te cl C ex s H))
  (cok:∀ cl C ex s Hc,CompOkF n J (g cl C ex s Hc) (tc cl C ex s Hc) (te cl C ex s Hc) σ H2 Q) :
  wpAny (model X.prog X.w) X.A (newList []) (fun acc s3=>wpAny (model X.prog X.w) X.A (newFunctionEnv scope X.env.globals cl [] X.env.qual none .none (some X.env)) (fun cenv s4=>
   codeAny (model X.prog X.w) X.A (.compStart (.ListComp elt [⟨tg,iter,[cnd],0⟩] scope pos) 0 (.ref it) acc {cenv with scope:=relabel scope X.env})
    (fun r s'=>match r with | .ok _=>CompBack X pins σ Q acc cenv.locals s' | .error x=>XHeld (cxComp X N' scope cl cenv.locals fp s2 H2) E0 x s') s4) E s3) E s2:=by
 have fl:∀ b∈fp,@LT.lt Nat _ b s2.heap.objs.size:=fun b hb=>by
  obtain⟨o,e,_⟩:=T.obj _ _ st2 b hb
  exact Heap.lt_size e
 have frl:∀ b∈frs X.stack,@LT.lt Nat _ b s2.heap.objs.size:=fun b hb=>by
  obtain⟨_,o,ho,_⟩:=I2.stack.mem hb
  exact Heap.lt_size ho
 have celll:∀ x c,X.env.cells.lookup x=some c→@LT.lt Nat _ c s2.heap.objs.size:=fun x c e=>by
  obtain⟨v,q⟩:=I2.cell x c e
  exact q.lt
 refine wpAny_newObj_type (wpAny_newFunctionEnv S.cell (by intro y hy; simp at hy) (fun h1 hns1 hsb1=>?_) S.kind)
 dsimp only at hns1 hsb1 ⊢
 generalize hH2:s2.heap.push {cls:=.type "list",dict:=none,data:=.seq ([]:List Value).toArray}=G at hns1 hsb1 ⊢
 have hC:@Eq Nat G.objs.size (s2.heap.objs.size+1):=by rw [← hH2,Heap.size_push]
 have hDC:s2.heap.objs.size≠G.objs.size:=by show @Ne Nat _ _; omega
 have below:∀ b,@LT.lt Nat _ b s2.heap.objs.size→b≠G.objs.size∧b≠s2.heap.objs.size:=fun b hb=>⟨by show @Ne Nat _ _; omega,Nat.ne_of_lt hb⟩
 have old:∀ b o,s2.heap.get? b=some o→h1.get? b=some o:=fun b o e=>hsb1.extBut b o (below b (Heap.lt_size e)).1 (Heap.get?_push_of_some _ (hH2▸Heap.get?_push_of_some _ e))
 have hacc:h1.get? s2.heap.objs.size=some {cls:=.type "list",data:=.seq ([]:List Value).toArray 0}:=hsb1.extBut _ _ hDC (Heap.get?_push_of_some _ (hH2▸Heap.get?_push_size _ rfl))
 have hst1:tn 0 h1:=T.keep _ _ _ st2 fun b hb o e=>old b o e
 let X':=cxComp X N' scope cl G.objs.size fp s2 H2
 obtain⟨W,⟨m0,w0⟩,turn⟩:=cok cl G.objs.size fp s2 H2
 have hXe:X'.xe=X.xe:=rfl
 have stat:∀ {H':Hp} {ps:List (Addr×Obj)},(∀ b∈fp,H' b=none)→(∀ p∈ps,p.1=s2.heap.objs.size)→∀ b∈fp,FpOk X' ps H' b:=fun {H' ps} hn hp b hb=>by
  obtain⟨f0,f1,ff,f3,f4,f5⟩:=f2 b hb
  refine⟨hn b hb,(below b (fl b hb)).1,fun z=>?_,.inl hb,fun x c e z=>?_,fun p hp' z=>?_⟩
  ·exact(List.mem_cons.mp (I2.stkSub b z)).elim f1 ff
  ·exact f4 x c (c1 x c e) z
  ·have e:p.1=s2.heap.objs.size:=hp p (by simpa [X',cxComp] using hp')
   exact(below b (fl b hb)).2 (z.symm.trans e)
 have loop:∀ s3:Shared,s3={s2 with heap:=h1,toks:=s2.toks+([]:List (Str×Value)).length}→
   codeAny (model X.prog X.w) X.A (.compLoop (.ListComp elt [⟨tg,iter,[cnd],0⟩] scope pos) 0 (.ref it) (.ref s2.heap.objs.size) (compEnvC scope cl G.objs.size X.env))
    (fun r s'=>match r with | .ok _=>CompBack X pins σ Q (.ref s2.heap.objs.size) G.objs.size s' | .error x=>XHeld (cxComp X N' scope cl G.objs.size fp s2 H2) E0 x s') s3:=by
  rintro s3 rfl
  have I3:=comp_inv (us:=[]) (k:=0) (s':={s2 with heap:=h1,toks:=s2.toks+([]:List (Str×Value)).length}) S c1 c2 I2 f2 fl rfl hC rfl rfl old ⟨_,hns1⟩ hacc
  refine codeAny_compLoop_if (fun m s'=>∃ i ys us k σ' H',Inv X' [(s2.heap.objs.size,{cls:=.type "list",data:=.seq (us:List Value).toArray k})] σ' H' s'∧Vals ys us∧tn i s'.heap∧(∀ b∈fp,H' b=none)∧ys.length≤sizeLine∧W i m ys σ' H') ?_ m0
   ⟨0,[],[],0,_,H2,I3,.nil,hst1,fun b hb=>(f2 b hb).1,Nat.zero_le _,w0⟩
  rintro m s' ⟨i,ys,us,k,σ',H',I',rv,st',fr',hlen,w'⟩
  rcases turn i m ys σ' H' w' with ⟨stop,q⟩ | ⟨go,hlt,step⟩
  ·refine thn (T.done X' rfl rfl rfl hc i _ s' σ' H' _ I' (stat fr' (by simp)) st' stop) fun r s4 ⟨hr,I4⟩=>?_
   subst hr
   show CompBack X pins σ Q (.ref s2.heap.objs.size) G.objs.size s4
   obtain⟨m1,hn1,_⟩:=I4.loc
   obtain⟨pD,nD,_,_,_⟩:=I4.pin (s2.heap.objs.size,{cls:=.type "list",data:=.seq us.toArray k}) (List.mem_append_right _ (by simp))
   have nD:H' s2.heap.objs.size=none:=nD
   have pD:s4.heap.get? s2.heap.objs.size=some {cls:=.type "list",data:=.seq us.toArray k}:=pD
   have hok:HOk X.prog X.w (upd H' s2.heap.objs.size (.lst ys)) s4.heap:=fun b u e=>by
    by_cases hb:b=s2.heap.objs.size
    ·subst hb
     rw [upd_same] at e; cases e
     exact⟨hlen,us,k,rv,pD⟩
    ·rw [upd_ne hb] at e
     exact(I4.hok b u e).stay (fun _ _ _ q=>q) (fun c q=>by rw [upd_ne (ne_of_none q nD)]; exact q) fun c xs q=>by rw [upd_ne (ne_of_none q nD)]; exact q
   have un:Un (frs X.stack) fp H2 (upd H' s2.heap.objs.size (.lst ys)) s2.heap s4.heap:=by
    have u0:=I4.base
    refine⟨u0.keep,u0.slot,fun b o e n hx=>?_,u0.there,fun b xs e=>?_,fun b o xs e=>?_,fun b ps e=>?_⟩
    ·rw [upd_ne (below b (Heap.lt_size e)).2]; exact u0.free b o e n hx
    ·have q:=u0.tups b xs e
     rw [upd_ne (ne_of_none q nD)]; exact q
    ·have q:=u0.frzs b o xs e
     rw [upd_ne (ne_of_none q nD)]; exact q
    ·obtain⟨more,q⟩:=u0.tbls b ps e
     exact⟨more,by rw [upd_ne (ne_of_none q nD)]; exact q⟩
   have IX:Inv X pins σ (upd H' s2.heap.objs.size (.lst ys)) s4:=I2.call' (ch:=fp) I4.os un hok I4.bare fun b hb=>by
    obtain⟨f0,f1,ff,f3,f4,f5⟩:=f2 b hb
    exact⟨f3,f1,f4,f5⟩
   have hG0:H' G.objs.size=none:=I4.free
   refine⟨s2.heap.objs.size,_,m1,rfl,IX,hn1,⟨by rw [upd_ne (Ne.symm hDC)]; exact hG0,fun z=>?_,fun z=>?_,.inr ?_,fun x c e z=>?_,fun p hp z=>?_⟩,q _ nD⟩
   ·have q1:@LT.lt Nat _ X.env.locals s2.heap.objs.size:=I2.lt
    have q2:@Eq Nat G.objs.size X.env.locals:=z
    omega
   ·have z':G.objs.size∈frs X.outer:=z
    obtain⟨_,o,ho,_⟩:=I2.funs.mem z'
    have q1:@LT.lt Nat _ G.objs.size s2.heap.objs.size:=Heap.lt_size ho
    omega
   ·have q1:=I2.sz
    show @LE.le Nat _ X.s₀.heap.objs.size G.objs.size
    omega
   ·have q1:=celll x c e
    have q2:@Eq Nat c G.objs.size:=z
    omega
   ·have q1:@LT.lt Nat _ p.1 s2.heap.objs.size:=Heap.lt_size (I2.pin p hp).1
    have q2:@Eq Nat p.1 G.objs.size:=z
    omega
  ·refine thn (T.item X' rfl rfl rfl hc i _ s' σ' H' _ I' (stat fr' (by simp)) st' go) fun r s4 ⟨u,hr,h4⟩=>?_
   subst hr
   show wpAny _ _ (letOwnedTupleGo tg (.ref it) u) _ _ s4
   refine thn h4 fun _ s5 ⟨x,H5,I5,r5,y5,st5,fr5⟩=>?_
   have I5':=I5.pinned (stat fr5 (by simp)) (T.obj _ _ st5)
   have w1:=hg cl G.objs.size fp s2 H2 _ s5 σ' H5 x u _ (I5'.wish _) r5 (step x H5 y5)
   refine wpAny_mono w1 (fun _ s6 ⟨σ6,H6,I6,q6⟩=>?_) fun v s hv=>wpAny_mono (XE.note (X:=cxComp X N' scope cl G.objs.size fp s2 H2) (E:=E0) hv) (fun _ _ z=>z) fun _ _ z=>z
   have w15:=hcn cl G.objs.size fp s2 H2 _ s6 σ6 H6 _ I6 q6
   refine wpAny_mono w15 (fun bb s65 ⟨H65,I65,q65⟩=>?_) fun v s hv=>wpAny_mono (XE.note (X:=cxComp X N' scope cl G.objs.size fp s2 H2) (E:=E0) hv) (fun _ _ z=>z) fun _ _ z=>z
   cases bb with
   | false=>
    rw [if_neg Bool.false_ne_true] at q65 ⊢
    obtain⟨m',hm',w65⟩:=q65
    have I66:=I65.unwish
    have pinD:=I66.pin (s2.heap.objs.size,{cls:=.type "list",data:=.seq us.toArray k}) (List.mem_append_right _ (List.mem_append_left _ (by simp)))
    refine⟨m',hm',i+1,ys,us,k,σ6,H65,I66.pins_of (fun p hp=>by rw [List.mem_singleton.mp hp]; exact pinD),rv,T.keep _ _ _ st5 fun b hb o e=>?_,fun b hb=>?_,hlen,w65⟩
    ·exact(I66.pin (b,o) (List.mem_append_right _ (List.mem_append_right _ (mem_pinsAt hb e)))).1
    ·obtain⟨o,e,d⟩:=T.obj _ _ st5 b hb
     exact(I66.pin (b,o) (List.mem_append_right _ (List.mem_append_right _ (mem_pinsAt hb e)))).2.1
   | true=>
   rw [if_pos rfl] at q65 ⊢
   obtain⟨NN,q6,hNN⟩:=q65
   have I6:=I65
   have H6:=H65
   have w2:=he cl G.objs.size fp s2 H2 _ s65 σ6 H65 _ I6 q6
   refine wpAny_mono w2 (fun y s7 ⟨v,H7,I7w,r7,q7⟩=>?_) fun v s hv=>wpAny_mono (XE.note (X:=cxComp X N' scope cl G.objs.size fp s2 H2) (E:=E0) hv) (fun _ _ z=>z) fun _ _ z=>z
   have I7:=I7w.unwish
   obtain⟨m',hm',w7⟩:=hNN v H7 q7
   have pinD:=I7.pin (s2.heap.objs.size,{cls:=.type "list",data:=.seq us.toArray k}) (List.mem_append_right _ (List.mem_append_left _ (by simp)))
   obtain⟨pD,nD,lD,fD,_⟩:=pinD
   refine append_at (hsz:=by rw [List.size_toArray,← rv.length]; exact hlen) pD fun h8 hs8 hD8=>?_
   have nD:H7 s2.heap.objs.size=none:=nD
   have I8:Inv X' (pinsAt fp s5.heap) σ6 H7 {s7 with heap:=h8}:=by
    refine(I7.pins_of (pins':=pinsAt fp s5.heap) fun p hp=>I7.pin p (List.mem_append_right _ (List.mem_append_right _ hp))).turned (t':=s7.toks) (it:=s2.heap.objs.size) (fun b o hb e=>(hs8.2 b hb).trans e) nD lD (.inr (Nat.le_refl _)) (fun x c e z=>?_) fun p hp z=>?_
    ·have q1:=celll x c (c1 x c e)
     have q2:@Eq Nat c s2.heap.objs.size:=z
     omega
    ·have hp':p∈pinsAt fp s5.heap:=by simpa [X',cxComp] using hp
     have q1:=fl p.1 (of_pinsAt hp').1
     have q2:@Eq Nat p.1 s2.heap.objs.size:=z
     omega
   have I9:Inv X' [(s2.heap.objs.size,{cls:=.type "list",data:=.seq (us++[y]).toArray (k+1)})] σ6 H7 {s7 with heap:=h8}:=I8.pins_of fun p hp=>by
    have e:p=(s2.heap.objs.size,{cls:=.type "list",data:=.seq (us++[y]).toArray (k+1)}):=by simpa using hp
    subst e
    refine⟨by rw [hD8,List.push_toArray],nD,lD,fD,fun v z=>by cases z⟩
   refine⟨m',hm',i+1,ys++[v],us++[y],k+1,σ6,H7,I9,rv.append (.cons r7 .nil),T.keep _ _ _ st5 fun b hb o e=>?_,fun b hb=>?_,by rw [List.length_append,List.length_singleton]; omega,w7⟩
   ·exact(I8.pin (b,o) (List.mem_append_right _ (mem_pinsAt hb e))).1
   ·obtain⟨o,e,d⟩:=T.obj _ _ st5 b hb
    exact(I8.pin (b,o) (List.mem_append_right _ (mem_pinsAt hb e))).2.1
 exact codeAny_compStart_list (loop _ rfl) (T.self _ 0 _ _ _ hst1 (loop _ rfl))
theorem ps_setCompF {E0:XK} {wi:TI} {g:InBlock TG} {tc:InBlock TT} {te:InBlock TE} {i:Nat} {x:Str} {pos' spos:Pos} (hN:X.N.Nodup) (hi0:X.N[i]? = some x) (hx:Loc X.env.scope x)
  (hsw:swapsWith (.ListComp elt [⟨tg,iter,[cnd],0⟩] scope pos) (some (.Name x pos')) spos.line X.env=pure true)
  (fr:Framed X) (hc:X.calm=true) (S:CompScope n N' X scope) (hi:PI (X.exc E0) tg iter wi)
  (hg:∀ cl C ex s H,PG ((cxComp X N' scope cl C ex s H).exc E0) tg (g cl C ex s H)) (hcn:∀ cl C ex s H,PT ((cxComp X N' scope cl C ex s H).exc E0) cnd (tc cl C ex s H)) (he:∀ cl C ex s H,PE ((cxComp X N' scope cl C ex s H).exc E0) elt (te cl C ex s H))
  (hs:∀ x,foldedSetIterable iter X.env x=pure x:=by intro _; rfl) (hf:X.fn x=true∨X.env.scope.names.lookup x=some .local:=by first | exact .inl rfl | exact .inr rfl | assumption) :
  PS (X.exc E0) (.Assign [.Name x pos'] (.ListComp elt [⟨tg,iter,[cnd],0⟩] scope pos) spos) (tAsg (tCompF n wi g tc te) (gName i)):=by
 intro pins s σ H D I h
 rw [exec_Assign_Name_used _ _ _ _ hsw]
 refine wpAny_bind (wpAny_standAt (wpAny_bind ?_))
 obtain⟨cl,hcl,c1,c2⟩:=closure_ok (scope:=scope) (env:=X.env) fun x hx hf=>I.ok.has x.1 (S.free x hx hf)
 show wpAny _ _ (do let _ ← comprehension (.ListComp elt [⟨tg,iter,[cnd],0⟩] scope pos) scope X.env _ (newList []) false (eval iter X.env) (some (assign (.Name x pos') X.env))) _ _ s
 refine wpAny_bind (wpAny_mono (wpAny_comprehension_free (use:=some (assign (.Name x pos') X.env)) (Q:=fun _ s'=>SP (X.exc E0) pins D .next s') rfl hs hcl S.kind S.names
  (thn (hi pins s σ H _ I h) fun v s1 h1=>thn h1 fun itv s2 h2=>?_)) (fun _ s' hq=>wpAny_pure (wpAny_pure hq)) fun _ _ e=>e)
 obtain⟨it,fp,tn,J,H2,e,I2w,T,st2,f2,cok⟩:=h2
 subst e
 have I2:=I2w.unwish
 refine wpAny_mono (comp_blockF (X:=X) (E0:=E0) (pos:=pos) (iter:=iter) (E:=(X.exc E0).xe) (Q:=fun x H1=>gName i x σ H1 D.nx) hc S c1 c2 I2 T st2 f2 hg hcn he cok) (fun acc s3 h3=>wpAny_mono h3 (fun cenv s4 h4=>codeAny_mono h4 fun r s' hr=>?_) fun _ _ z=>z) fun _ _ z=>z
 cases r with
 | error e=>exact comp_fails I2 f2 fr hr
 | ok f=>
  obtain⟨Dl,H',m,rfl,I',hn,⟨f0,f1,ff,f3,f4,f5⟩,q⟩:=hr
  show wpAny _ _ (assign (.Name x pos') X.env (.ref Dl)) _ _ s'
  refine wpAny_assign_Name (store_ok2 I' hN hi0 hx (v:=.ref Dl) (u:=.ref Dl) rfl (fun s'' I'' hb=>?_) hf)
  obtain⟨a,sb,ha⟩:=hb
  have hCa:cenv.locals≠a:=by
   rcases ha with rfl | ha
   ·exact f1
   ·exact fun z=>f4 x a ha z.symm
  refine⟨m,hn.sameBut sb hCa,fun h' hs'=>⟨_,H',Inv.wish ?_ _,q⟩⟩
  exact I''.turned (t':=s''.toks) (fun b o hb e=>(hs'.2 b hb).trans e) f0 f1 f3 f4 f5
end
section
variable {X:Cx} {pins:List (Addr×Obj)} {σ:St} {H:Hp} {s:Shared}
theorem Inv.trackO {a:Addr} {o:HO} (I:Inv X pins σ H s) (l:Loose X pins H a) (ok:ObjOk X.prog X.w (upd H a o) s.heap a o):Inv X pins σ (upd H a o) s:=by
 have nb:∀ b u,H b=some u→b≠a:=fun b u q=>ne_of_none q l.un
 refine⟨I.ok,I.os,I.bare,⟨I.base.keep,I.base.slot,fun b o q n hx=>?_,I.base.there,fun b xs q=>?_,fun b o xs q=>?_,fun b ps q=>?_⟩,I.loc,I.cell,?_,fun x c hc=>?_,fun p hp=>?_,fun b u q=>?_,I.len⟩
 ·have : b≠a:=by
   rintro rfl
   rcases l.new with z | z
   ·exact hx z
   ·rw [z] at q; cases q
  rw [upd_ne this]; exact I.base.free b _ q n hx
 ·have:=I.base.tups b xs q
  rw [upd_ne (nb b _ this)]; exact this
 ·have:=I.base.frzs b o xs q
  rw [upd_ne (nb b _ this)]; exact this
 ·obtain⟨m,z⟩:=I.base.tbls b ps q
  exact⟨m,by rw [upd_ne (nb b _ z)]; exact z⟩
 ·rw [upd_ne (Ne.symm l.loc)]; exact I.free
 ·rw [upd_ne (l.cel x c hc)]; exact I.freeC x c hc
 ·obtain⟨e1,n,ne,nf,d⟩:=I.pin p hp
  exact⟨e1,by rw [upd_ne (l.pin p hp)]; exact n,ne,nf,d⟩
 ·by_cases hb:b=a
  ·subst hb
   rw [upd_same] at q; cases q
   exact ok
  ·rw [upd_ne hb] at q
   exact(I.hok b u q).stay (fun _ _ _ z=>z) (fun c z=>by rw [upd_ne (nb c _ z)]; exact z) fun c xs z=>by rw [upd_ne (nb c _ z)]; exact z
theorem FpOk.loose {b:Addr} (f:FpOk X pins H b):Loose X pins H b:=by
 obtain⟨f0,f1,f2,f3,f4,f5⟩:=f
 exact⟨f0,f3.imp id Heap.get?_none_of_le,f1,f4,f5⟩
end
section
variable {X:Cx} {elts:List Expr} {k:Nat} {tpos:Pos}
theorem boot_enum:bootBuiltins "enumerate"=some (.type "enumerate"):=by decide +kernel
end
end L2
set_option maxHeartbeats 1000000
namespace L2
open PySem PySem.Spec PyProof.Rows
section
variable {X:Cx}
end
end L2
namespace HT
open PySem PySem.Spec PyProof.Rows L2
section
variable {prog:Program} {w:World} {A:Around} {E:Value→Shared→Prop} {s:Shared}
end
end HT
namespace L2
open PySem PySem.Spec PyProof.Rows
section
variable {X:Cx}
theorem op_eqL0 (hu:X.A.units<cLine):OpR X (compareOp .Eq) (fun x y H Q=>∃ (a b:Addr) (xs:List V),x=.ref a∧y=.ref b∧SqL X.K H a xs∧SqL X.K H b []∧Q (.bl xs.isEmpty) H):=by
 intro pins s σ H x y v u Q I rx ry h
 obtain⟨a,b,xs,rfl,rfl,ha,hb,q⟩:=h
 cases rx
 cases ry
 obtain⟨its,r1,p1,_⟩:=I.list ha
 obtain⟨jts,r2,p2,_⟩:=I.list hb
 cases r2
 cases r1 with
 | nil=>exact PySem.SeqAt.eq_listAt (e:=fun _=>true) p1.isList p2.isList rfl hu (fun j h1 _=>absurd h1 (by simp)) ⟨.bl true,H,I.tok _,rfl,q⟩
 | cons r t=>exact PySem.SeqAt.eq_list_lengthsAt p1.isList p2.isList (by simp) hu ⟨.bl false,H,I.tok _,rfl,q⟩
end
abbrev CK:=Str×List Int
section
variable {P:Program} {w:World}
variable {A:Around} {E:Value→Shared→Prop} {s:Shared}
end
def Raw (h:Heap) (d:Addr) (es:Array DictEntry) (ep:Nat):Prop:=∃ o,h.get? d=some o∧o.ExactDict∧o.data=.dict es ep
theorem Raw.typeIs {s:Shared} {d:Addr} {es:Array DictEntry} {ep:Nat} (m:Raw s.heap d es ep):s.TypeIs (.ref d) "dict":=let ⟨o,ho,hc,_⟩:=m; ⟨o,ho,hc.1⟩
section
variable {P:Program} {w:World} {A:Around} {E:Value→Shared→Prop} {s:Shared} {d it:Addr} {es:Array DictEntry} {ep i:Nat}
theorem raw_iter {Q:Value→Shared→Prop} (hd:(d==sysModules)=false) (hm:Raw s.heap d es ep)
  (hQ:Q (.ref s.heap.objs.size) {s with heap:=s.heap.push {cls:=.type "dict_keyiterator",data:=.fields #[.ref d,.int 0 0,.int es.size 0,.int ep 0]}}):wpAny (model P w) A (pyIter (.ref d)) Q E s:=by
 have hT:=hm.typeIs
 obtain⟨o,ho,hc,hdat⟩:=hm
 refine wpAny_pyIter_slot hT F.slot_dict_iter (wpAny_call_entry F.slot_dict_iter hT F.entry_dict_iter ?_ (F.args_dict_iter_1 _))
 unfold Builtin.«dict.__iter__»
 refine wpAny_bind ?_
 unfold Builtin.Dict.dictSlotNone
 refine wpAny_bind (wpAny_notOrdered_dict hT ?_)
 show wpAny _ _ (pure (Value.ref d)) _ _ s
 refine wpAny_pure ?_
 show wpAny _ _ (Builtin.Dict.showsAll d>>=_) _ _ s
 unfold Builtin.Dict.showsAll
 rw [if_neg (by rw [hd]; exact Bool.false_ne_true)]
 refine wpAny_bind (wpAny_pure (wpAny_bind (wpAny_dictEntries ho hdat (wpAny_bind (wpAny_dictEpoch ho hdat ?_)))))
 refine wpAny_bind (wpAny_newObj_type (wpAny_pure ⟨_,rfl,"dict_keyiterator",_,⟨_,Heap.get?_push_size _ rfl,rfl⟩,F.slot_dict_keyiterator_next.lookup,?_⟩))
 simpa [rawInt] using hQ
theorem raw_item {Q:Option Value→Shared→Prop} (hit:s.heap.IsKeyIter it d i es.size ep) (hm:Raw s.heap d es ep) (hlt:i<es.size)
  (hQ:∀ h',h'.IsKeyIter it d (i+1) es.size ep→Heap.SameBut it s.heap h'→Q (some es[i].key) {s with heap:=h'}):wpAny (model P w) A (pyNext (.ref it)) Q E s:=by
 obtain⟨o,ho,hc,hd⟩:=id hit
 obtain⟨od,hod,hcd,hdd⟩:=id hm
 unfold pyNext
 refine wpAny_bind (wpAny_attempt (wpAny_callSpecial?_slot (name:=Str.ofString "__next__") hit.typeIs F.slot_dict_keyiterator_next (wpAny_call_entry F.slot_dict_keyiterator_next hit.typeIs F.entry_dict_keyiterator_next ?_ (F.args_dict_keyiterator_next_1 _))))
 refine wpAny_bind (wpAny_pure (wpAny_bind (wpAny_bind ?_)))
 first | refine wpAny_bind (wpAny_typeNameOfWhole_keyiter hit.typeIs (wpAny_pure ?_)) | refine wpAny_bind (wpAny_typeNameOf_keyiter hit.typeIs (wpAny_pure ?_))
 refine wpAny_bind (wpAny_fieldsOf ho hd ?_)
 have hown:Builtin.Dict_items.ownsTuple "dict_keyiterator"=false:=by decide
 simp only [hown,Bool.false_eq_true,if_false]
 show wpAny _ _ (if (Value.ref d==Value.none)=true then _ else _) _ _ s
 rw [if_neg (show ¬ ((Value.ref d==Value.none)=true) from Bool.false_ne_true)]
 refine wpAny_bind (wpAny_pure (wpAny_bind (wpAny_dictEntries hod hdd ?_)))
 rw [if_neg (by simp)]
 refine wpAny_bind (wpAny_pure (wpAny_bind (wpAny_dictEpoch hod hdd ?_)))
 rw [if_neg (by simp)]
 refine wpAny_pure ?_
 simp only [show ¬ ((i:Int)<0) from by omega,if_false,Int.toNat_natCast,Array.getElem?_eq_getElem hlt]
 refine wpAny_bind ?_
 first | refine wpAny_bind (wpAny_typeNameOfWhole_keyiter hit.typeIs (wpAny_pure ?_)) | refine wpAny_bind (wpAny_typeNameOf_keyiter hit.typeIs (wpAny_pure ?_))
 refine wpAny_bind (wpAny_isOneOf_keyiter hit.typeIs ?_)
 show wpAny _ _ (setField (.ref it) 1 (rawInt ((i:Int)+1))>>=_) _ _ s
 refine wpAny_bind (wpAny_setField ho hd (by simp) ?_)
 have hit':(s.heap.update it (Obj.mapFields (·.setIfInBounds 1 (rawInt ((i:Int)+1))))).IsKeyIter it d (i+1) es.size ep:=
  ⟨_,Heap.get?_update_self _ ho (Obj.isFreed_of_fields (Obj.data_mapFields hd _)),(Obj.cls_mapFields ..).trans hc,by rw [Obj.data_mapFields hd]; simp [rawInt]⟩
 refine wpAny_bind (wpAny_holding ?_)
 refine wpAny_bind (wpAny_isOneOf_keyiter (s:={s with heap:=s.heap.update it (Obj.mapFields (·.setIfInBounds 1 (rawInt ((i:Int)+1))))}) hit'.typeIs ?_)
 show wpAny _ _ (pure es[i].key) _ _ _
 exact wpAny_pure (wpAny_pure ⟨_,rfl,wpAny_pure (hQ _ hit' (Heap.SameBut.update ..))⟩)
theorem raw_end {Q:Option Value→Shared→Prop} (hh:A.handled=none) (hit:s.heap.IsKeyIter it d es.size es.size ep) (hm:Raw s.heap d es ep)
  (hQ:∀ h',Heap.ExtBut it s.heap h'→Q none {s with heap:=h'}):wpAny (model P w) A (pyNext (.ref it)) Q E s:=by
 obtain⟨o,ho,hc,hd⟩:=id hit
 obtain⟨od,hod,hcd,hdd⟩:=id hm
 unfold pyNext
 refine wpAny_bind (wpAny_attempt (wpAny_callSpecial?_slot (name:=Str.ofString "__next__") hit.typeIs F.slot_dict_keyiterator_next (wpAny_call_entry F.slot_dict_keyiterator_next hit.typeIs F.entry_dict_keyiterator_next ?_ (F.args_dict_keyiterator_next_1 _))))
 refine wpAny_bind (wpAny_pure (wpAny_bind (wpAny_bind ?_)))
 first | refine wpAny_bind (wpAny_typeNameOfWhole_keyiter hit.typeIs (wpAny_pure ?_)) | refine wpAny_bind (wpAny_typeNameOf_keyiter hit.typeIs (wpAny_pure ?_))
 refine wpAny_bind (wpAny_fieldsOf ho hd ?_)
 have hown:Builtin.Dict_items.ownsTuple "dict_keyiterator"=false:=by decide
 simp only [hown,Bool.false_eq_true,if_false]
 show wpAny _ _ (if (Value.ref d==Value.none)=true then _ else _) _ _ s
 rw [if_neg (show ¬ ((Value.ref d==Value.none)=true) from Bool.false_ne_true)]
 refine wpAny_bind (wpAny_pure (wpAny_bind (wpAny_dictEntries hod hdd ?_)))
 rw [if_neg (by simp)]
 refine wpAny_bind (wpAny_pure (wpAny_bind (wpAny_dictEpoch hod hdd ?_)))
 rw [if_neg (by simp)]
 refine wpAny_pure ?_
 simp only [show ¬ ((es.size:Int)<0) from by omega,if_false,Int.toNat_natCast,Array.getElem?_eq_none (Nat.le_refl es.size)]
 refine wpAny_bind ?_
 first | refine wpAny_bind (wpAny_typeNameOfWhole_keyiter hit.typeIs (wpAny_pure ?_)) | refine wpAny_bind (wpAny_typeNameOf_keyiter hit.typeIs (wpAny_pure ?_))
 show wpAny _ _ (setField (.ref it) 0 .none>>=_) _ _ s
 refine wpAny_bind (wpAny_setField ho hd (by simp) ?_)
 show wpAny _ _ (newExc (.type "StopIteration") []>>=_) _ _ _
 refine wpAny_bind ?_
 simp only [newExc,newTuple]
 refine wpAny_bind (wpAny_newObj_type ?_ (by size_fits))
 refine wpAny_bind (m:=firstArgMember _ _) (wpAny_of_eq (a:=Value.none) (by first | rfl | (simp only [firstArgMember]; rfl)) ?_)
 refine wpAny_newObj_type ?_ (by size_fits)
 simp only [raiseNew]
 refine wpAny_bind (wpAny_handled ?_)
 rw [show A.in1.handled=none from hh]
 refine wpAny_bind (wpAny_pure (wpAny_throw ?_))
 refine wpAny_bind (wpAny_isInstance (T:="StopIteration") (b:=true) ⟨_,Heap.get?_push_size _ rfl,rfl⟩ isSubtype_stop ?_)
 exact wpAny_pure (hQ _ (((Heap.SameBut.update ..).extBut.push _).push _))
end
abbrev CD:=List (CK×Addr×V)
section
variable {P:Program} {w:World} {H:Hp} {h:Heap} {a:Addr}
end
section
variable {X:Cx} {pins:List (Addr×Obj)} {σ:St} {H:Hp} {s:Shared} {a q:Addr} {cd:CD} {k:CK} {v:V} {r:Value} {A:Around} {E:Value→Shared→Prop}
end
section
variable {X:Cx} {o i e value:Expr} {pos pos' tpos:Pos} {td ty tv:TE}
end
structure Feed (P:Program) (w:World) (i l:Addr) (xs:Array Value) (It:Nat→Heap→Prop):Prop where
 item:∀ (A:Around) (s:Shared) (k:Nat) (x:Value) (Q:Value→Shared→Prop) (E:Value→Shared→Prop),It k s.heap→xs[k]? = some x→
  (∀ h',It (k+1) h'→Heap.SameBut i s.heap h'→Q x {s with heap:=h'})→wpAny (model P w) A (Builtin.SmallTypes.nextOf (.ref i)) Q E s
 fin:∀ (A:Around) (s:Shared) (k:Nat) (Q:Value→Shared→Prop) (E:Value→Shared→Prop),A.handled=none→It k s.heap→xs[k]? = none→
  (∀ h' e,Heap.ExtBut i s.heap h'→(∃ o,h'.get? e=some o∧o.cls=.type "StopIteration")→E (.ref e) {s with heap:=h'})→wpAny (model P w) A (Builtin.SmallTypes.nextOf (.ref i)) Q E s
 keep:∀ (h h':Heap) (k:Nat),It k h→(∀ b,b=i∨b=l→∀ o,h.get? b=some o→h'.get? b=some o)→It k h'
section
variable {P:Program} {w:World}
theorem feed_list (i l:Addr) (xs:Array Value) (hne:l≠i):Feed P w i l xs fun k h=>h.IsListIter i l k∧h.IsList l xs where
 item:=fun A s k x Q E st hx hQ=>wpAny_nextOf_list_item st.1 st.2 hx fun h' it' hs=>hQ h' ⟨it',st.2.extBut hs.extBut hne⟩ hs
 fin:=fun A s k Q E hh st hx hE=>wpAny_nextOf_list_end hh st.1 st.2 hx hE
 keep:=fun h h' k st hk=>⟨st.1.at fun o e=>hk i (.inl rfl) o e,st.2.at fun o e=>hk l (.inr rfl) o e⟩
section
variable {A:Around} {E:Value→Shared→Prop} {s:Shared}
theorem tup_item {it t:Addr} {k:Nat} {items:Array Value} {x:Value} {Q:Value→Shared→Prop} (hit:s.heap.IsTupleIter it t k) (ht:s.heap.IsTuple t items) (hx:items[k]? = some x)
  (hQ:∀ h',h'.IsTupleIter it t (k+1)→Heap.SameBut it s.heap h'→Q x {s with heap:=h'}):wpAny (model P w) A (Builtin.SmallTypes.nextOf (.ref it)) Q E s:=by
 obtain⟨o,ho,hc,hd⟩:=id hit
 obtain⟨ol,hol,_,nl,hdl⟩:=ht
 unfold Builtin.SmallTypes.nextOf
 refine wpAny_bind (wpAny_callSpecial?_slot (name:=Str.ofString "__next__") hit.typeIs F.slot_tuple_iterator_next (wpAny_call_entry F.slot_tuple_iterator_next hit.typeIs F.entry_tuple_iterator_next ?_ (F.args_tuple_iterator_next_1 _)))
 show wpAny _ _ (field (.ref it) 0>>=_) _ _ s
 refine wpAny_bind (wpAny_field ho hd (x:=.ref t) rfl ?_)
 show wpAny _ _ (if (Value.ref t==Value.none)=true then _ else _) _ _ s
 rw [if_neg (show ¬ ((Value.ref t==Value.none)=true) from Bool.false_ne_true)]
 show wpAny _ _ (field (.ref it) 1>>=_) _ _ s
 refine wpAny_bind (wpAny_field ho hd (x:=.int k 0) rfl ?_)
 show wpAny _ _ (seqItems? (.ref t)>>=_) _ _ s
 refine wpAny_bind (wpAny_seqItems hol hdl ?_)
 simp only [Int.toNat_natCast,hx]
 refine wpAny_bind (wpAny_setField ho hd (by simp) (wpAny_pure ⟨x,rfl,wpAny_pure (hQ _ ⟨_,Heap.get?_update_self _ ho (Obj.isFreed_of_fields (Obj.data_mapFields hd _)),(Obj.cls_mapFields ..).trans hc,?_⟩ (Heap.SameBut.update ..))⟩))
 rw [Obj.data_mapFields hd]; simp [rawInt]
theorem tup_end {it t:Addr} {k:Nat} {items:Array Value} {Q:Value→Shared→Prop} (hh:A.handled=none) (hit:s.heap.IsTupleIter it t k) (ht:s.heap.IsTuple t items) (hx:items[k]? = none)
  (hE:∀ h' e,Heap.ExtBut it s.heap h'→(∃ o,h'.get? e=some o∧o.cls=.type "StopIteration")→E (.ref e) {s with heap:=h'}):wpAny (model P w) A (Builtin.SmallTypes.nextOf (.ref it)) Q E s:=by
 obtain⟨o,ho,hc,hd⟩:=id hit
 obtain⟨ol,hol,_,nl,hdl⟩:=ht
 unfold Builtin.SmallTypes.nextOf
 refine wpAny_bind (wpAny_callSpecial?_slot (name:=Str.ofString "__next__") hit.typeIs F.slot_tuple_iterator_next (wpAny_call_entry F.slot_tuple_iterator_next hit.typeIs F.entry_tuple_iterator_next ?_ (F.args_tuple_iterator_next_1 _)))
 show wpAny _ _ (field (.ref it) 0>>=_) _ _ s
 refine wpAny_bind (wpAny_field ho hd (x:=.ref t) rfl ?_)
 show wpAny _ _ (if (Value.ref t==Value.none)=true then _ else _) _ _ s
 rw [if_neg (show ¬ ((Value.ref t==Value.none)=true) from Bool.false_ne_true)]
 show wpAny _ _ (field (.ref it) 1>>=_) _ _ s
 refine wpAny_bind (wpAny_field ho hd (x:=.int k 0) rfl ?_)
 show wpAny _ _ (seqItems? (.ref t)>>=_) _ _ s
 refine wpAny_bind (wpAny_seqItems hol hdl ?_)
 simp only [Int.toNat_natCast,hx]
 refine wpAny_bind (wpAny_rule (wpAny_bind (wpAny_setField ho hd (by simp) ?_)))
 show wpAny _ _ (newExc (.type "StopIteration") []>>=_) _ _ _
 refine wpAny_bind ?_
 simp only [newExc,newTuple]
 refine wpAny_bind (wpAny_newObj_type ?_ (by size_fits))
 refine wpAny_bind (m:=firstArgMember _ _) (wpAny_of_eq (a:=Value.none) (by first | rfl | (simp only [firstArgMember]; rfl)) ?_)
 refine wpAny_newObj_type ?_ (by size_fits)
 simp only [raiseNew]
 refine wpAny_bind (wpAny_handled ?_)
 rw [show A.in1.handled=none from hh]
 refine wpAny_bind (wpAny_pure (wpAny_throw ?_))
 exact hE _ _ (((Heap.SameBut.update ..).extBut.push _).push _) ⟨_,Heap.get?_push_size _ rfl,rfl⟩
end
theorem feed_tup (i l:Addr) (xs:Array Value) (hne:l≠i):Feed P w i l xs fun k h=>h.IsTupleIter i l k∧h.IsTuple l xs where
 item:=fun A s k x Q E st hx hQ=>tup_item st.1 st.2 hx fun h' it' hs=>hQ h' ⟨it',st.2.extBut hs.extBut hne⟩ hs
 fin:=fun A s k Q E hh st hx hE=>tup_end hh st.1 st.2 hx hE
 keep:=fun h h' k st hk=>⟨let ⟨o,ho,r⟩:=st.1; ⟨o,hk i (.inl rfl) o ho,r⟩,let ⟨o,ho,r⟩:=st.2; ⟨o,hk l (.inr rfl) o ho,r⟩⟩
end
abbrev ZAt (h:Heap) (z TI TO:Addr) (f0:Value) (f1:Bool):Prop:=
 h.get? z=some {cls:=.type "zip",dict:=none,data:=.fields #[f0,.bool f1,.bool false,.ref TI,.ref TO],slots:=#[]}
structure ZSt (It1 It2:Nat→Heap→Prop) (z TI TO i1 i2:Addr) (k:Nat) (h:Heap):Prop where
 z:∃ f0 f1,ZAt h z TI TO f0 f1∧(f0=.none∨∃ (T:Addr) (o:Obj),f0=rawInt (T:Int)∧h.get? T=some o∧T≠z∧T≠TO∧T≠i1∧T≠i2)
 ti:IsPair h TI (.ref i1) (.ref i2)
 to:∃ a b,IsPair h TO a b
 a:It1 k h
 b:It2 k h
section
variable {P:Program} {w:World} {A:Around} {E:Value→Shared→Prop} {s:Shared} {It1 It2:Nat→Heap→Prop} {z TI TO i1 i2 l1 l2:Addr} {xs ys:Array Value} {k:Nat} {x y:Value}
theorem z_end {Q:Option Value→Shared→Prop} (hh:A.handled=none) (D:ZipApart z TI TO i1 i2 l1 l2) (F1:Feed P w i1 l1 xs It1) (st:ZSt It1 It2 z TI TO i1 i2 k s.heap) (hx:xs[k]? = none)
  (hQ:∀ h',(∀ c o,c≠z→c≠TO→c≠i1→c≠i2→s.heap.get? c=some o→h'.get? c=some o)→Q none {s with heap:=h'}) :
  wpAny (model P w) A (pyNext (.ref z)) Q E s:=by
 obtain⟨⟨f0,f1,hz,hf⟩,hTI,⟨a,b,hTO⟩,h1,h2⟩:=st
 have hT:s.TypeIs (.ref z) "zip":=⟨_,hz,rfl⟩
 unfold pyNext
 refine wpAny_bind (wpAny_attempt (wpAny_callSpecial?_slot (name:=Str.ofString "__next__") hT F.slot_zip_next (wpAny_call_entry F.slot_zip_next hT F.entry_zip_next ?_ (F.args_zip_next_1 _))))
 refine wpAny_mono (Q:=fun _ _=>False) (E:=fun e s'=>∃ h' a,e=.ref a∧s'={s with heap:=h'}∧(∀ c o,c≠z→c≠TO→c≠i1→c≠i2→s.heap.get? c=some o→h'.get? c=some o)∧∃ o,h'.get? a=some o∧o.cls=.type "StopIteration") ?_ (fun _ _ q=>q.elim) ?_
 ·show wpAny _ _ (field (.ref z) 2>>=_) _ _ _
  refine wpAny_bind (wpAny_field hz rfl (x:=.bool false) rfl ?_)
  show wpAny _ _ (field (.ref z) 3>>=_) _ _ _
  refine wpAny_bind (wpAny_field hz rfl (x:=.ref TI) rfl (wpAny_bind (wpAny_seqItems hTI rfl ?_)))
  show wpAny _ _ (Builtin.SmallTypes.ownedTupleIsFree (.ref z)>>=_) _ _ _
  refine wpAny_bind ?_
  rcases hf with rfl | ⟨T,oT,rfl,hT0,tz,tTO,t1,t2⟩
  ·unfold Builtin.SmallTypes.ownedTupleIsFree
   refine wpAny_bind (wpAny_field hz rfl (x:=.none) rfl (wpAny_pure ?_))
   simp only [if_true]
   refine wpAny_bind (wpAny_rule ?_)
   refine wpAny_bind (wpAny_field hz rfl (x:=.ref TO) rfl ?_)
   refine wpAny_bind (wpAny_setField_rec hz (by simp) fun h₁ hz₁ hs₁=>?_)
   replace hz₁:ZAt h₁ z TI TO .ellipsis f1:=hz₁
   refine wpAny_bind ?_
   simp only [List.zipIdx_cons,List.zipIdx_nil,List.forIn_cons,List.forIn_nil]
   have kp1:∀ c o,c≠z→s.heap.get? c=some o→h₁.get? c=some o:=fun c o hc e=>hs₁.extBut c o hc e
   have a1:It1 k h₁:=F1.keep _ _ _ h1 fun b hb o e=>kp1 b o (by rcases hb with rfl | rfl; exact D.i1z; exact D.l1z) e
   refine wpAny_bind (wpAny_bind (wpAny_onRaise ?_))
   show wpAny _ _ (Builtin.SmallTypes.nextOf (.ref i1)>>=_) _ _ _
   refine wpAny_bind (F1.fin _ {s with heap:=h₁} k _ _ (by exact hh) a1 hx fun h₂ e hs₂ he=>?_)
   obtain⟨oe,hoe,hce⟩:=he
   have hz₂:ZAt h₂ z TI TO .ellipsis f1:=hs₂ _ _ D.i1z.symm hz₁
   have hez:e≠z:=fun q=>by subst q; rw [hz₂] at hoe; cases hoe; simp at hce
   refine wpAny_setField_rec hz₂ (by simp) fun h₃ _ hs₃=>⟨h₃,e,rfl,rfl,fun c o c1 _ c3 _ q=>hs₃.extBut _ _ c1 (hs₂ _ _ c3 (kp1 _ _ c1 q)),oe,hs₃.extBut _ _ hez hoe,hce⟩
  ·refine wpAny_mono (Q:=fun b s₁=>b=false∧∃ h₁,s₁={s with heap:=h₁}∧ZAt h₁ z TI TO (rawInt (T:Int)) true∧Heap.SameBut z s.heap h₁) ?_ ?_ fun _ _ q=>q
   ·unfold Builtin.SmallTypes.ownedTupleIsFree
    refine wpAny_bind (wpAny_field hz rfl (x:=rawInt (T:Int)) rfl ?_)
    show wpAny _ _ (loadIfAlive ((T:Int).toNat)>>=_) _ _ _
    rw [Int.toNat_natCast]
    refine wpAny_bind (PySem.W.kdx_alive hT0 ?_)
    simp only [Option.isNone_some,Bool.false_eq_true,if_false]
    refine wpAny_bind (wpAny_field hz rfl (x:=.bool f1) rfl ?_)
    cases f1 with
    | true=>
     rw [if_neg (show ¬ ((Value.bool true != Value.bool true)=true) from Bool.false_ne_true)]
     exact wpAny_pure ⟨rfl,_,rfl,hz,Heap.SameBut.refl _ _⟩
    | false=>
     rw [if_pos (show (Value.bool false != Value.bool true)=true from rfl)]
     refine wpAny_bind (wpAny_setField_rec hz (by simp) fun h₁ hz₁ hs₁=>?_)
     exact wpAny_pure ⟨rfl,_,rfl,hz₁,hs₁⟩
   ·rintro b' s₁ ⟨rfl,h₁,rfl,hz₁,hs₁⟩
    simp only [Bool.false_eq_true,if_false]
    have kp1:∀ c o,c≠z→s.heap.get? c=some o→h₁.get? c=some o:=fun c o hc e=>hs₁.extBut c o hc e
    have a1:It1 k h₁:=F1.keep _ _ _ h1 fun b hb o e=>kp1 b o (by rcases hb with rfl | rfl; exact D.i1z; exact D.l1z) e
    refine wpAny_bind ?_
    rw [← Array.forIn_toList]
    simp only [List.forIn_cons,List.forIn_nil]
    refine wpAny_bind (wpAny_bind (wpAny_holding ?_))
    show wpAny _ _ (Builtin.SmallTypes.nextOf (.ref i1)>>=_) _ _ _
    refine wpAny_bind (F1.fin _ {s with heap:=h₁} k _ _ (by exact hh) a1 hx fun h₂ e hs₂ he=>?_)
    exact⟨h₂,e,rfl,rfl,fun c o c1 _ c3 _ q=>hs₂ _ _ c3 (kp1 _ _ c1 q),he⟩
 ·rintro e s' ⟨h',c,rfl,rfl,hk,o,ho,hc⟩
  refine wpAny_bind (wpAny_isInstance (T:="StopIteration") (b:=true) ⟨o,ho,hc⟩ isSubtype_stop ?_)
  exact wpAny_pure (hQ _ hk)
end
section
variable {P:Program} {w:World} {A:Around} {R:Result→Shared→Prop} {It1 It2:Nat→Heap→Prop} {z TI TO i1 i2 l1 l2 d:Addr} {xs ys:Array Value} {ws:List Str}
end
abbrev zt2 (h:Heap) (l1 l2:Addr):Heap:=(zipH1 h l1).push {cls:=.type "tuple_iterator",data:=.fields #[.ref l2,.int 0 0]}
abbrev zt3 (h:Heap) (l1 l2:Addr):Heap:=(zt2 h l1 l2).push {cls:=.type "tuple",data:=.seq #[.ref h.objs.size,.ref (zipH1 h l1).objs.size]}
abbrev zt4 (h:Heap) (l1 l2:Addr):Heap:=(zt3 h l1 l2).push {cls:=.type "tuple",data:=.seq #[.none,.none]}
abbrev zt5 (h:Heap) (l1 l2:Addr):Heap:=(zt4 h l1 l2).push {cls:=.type "zip",data:=.fields #[.none,.bool false,.bool false,.ref (zt2 h l1 l2).objs.size,.ref (zt3 h l1 l2).objs.size]}
theorem zt_new (l1 l2:Addr) (xs ys:Array Value) :
  Meets (Builtin.«zip.__new__» ⟨[.type "zip",.ref l1,.ref l2],[]⟩) (fun _ R s=>s.heap.IsList l1 xs∧s.heap.IsTuple l2 ys∧R (.ok (.ret (.ref (zt4 s.heap l1 l2).objs.size))) {s with heap:=zt5 s.heap l1 l2}):=
 .of_wp fun prog w A R s h=>by
  obtain⟨hp,g,d,tk,os⟩:=s; obtain⟨hl1,hl2,h⟩:=h
  have hsub:=sub_zip
  have hL1:Heap.IsList (Shared.heap ⟨hp,g,d,tk,os⟩) l1 xs:=hl1
  have hL2:Heap.IsTuple (Shared.heap ⟨hp.push {cls:=.type "list_iterator",data:=.fields #[.ref l1,.int 0 0]},g,d,tk,os⟩) l2 ys:=Heap.IsTuple.push hl2 _
  wp_walk using wpAny_pyIter_list hL1,wpAny_pyIter_tuple hL2
  exact⟨_,rfl,h⟩
section
variable {P:Program} {w:World} {A:Around} {E:Value→Shared→Prop} {s:Shared} {l1 l2:Addr} {xs ys:Array Value}
theorem call_zipT {Q:Value→Shared→Prop} (hl1:s.heap.IsList l1 xs) (hl2:s.heap.IsTuple l2 ys)
  (h:∀ h',IsZip h' (s.heap.objs.size+4) (s.heap.objs.size+2) (s.heap.objs.size+3) .none→IsPair h' (s.heap.objs.size+2) (.ref s.heap.objs.size) (.ref (s.heap.objs.size+1))→IsPair h' (s.heap.objs.size+3) .none .none→
   h'.IsListIter s.heap.objs.size l1 0→h'.IsTupleIter (s.heap.objs.size+1) l2 0→(∀ c o,s.heap.get? c=some o→h'.get? c=some o)→Q (.ref (s.heap.objs.size+4)) {s with heap:=h'}) :
  wpAny (model P w) A (call (.type "zip") [.ref l1,.ref l2]) Q E s:=by
 refine callType_new F.called_zip (by decide) (F.typeCall_zip_2 _ _) (F.newCall_zip_2 _ _) (fun obj=>F.args_object_init_3 obj _ _) F.entry_zip_new (zt_new l1 l2 xs ys) ⟨hl1,hl2,?_⟩
 have z1:(zipH1 s.heap l1).objs.size=s.heap.objs.size+1:=Heap.size_push ..
 have z2:(zt2 s.heap l1 l2).objs.size=s.heap.objs.size+2:=by rw [Heap.size_push,z1]
 have z3:(zt3 s.heap l1 l2).objs.size=s.heap.objs.size+3:=by rw [Heap.size_push,z2]
 have z4:(zt4 s.heap l1 l2).objs.size=s.heap.objs.size+4:=by rw [Heap.size_push,z3]
 have g5:(zt5 s.heap l1 l2).get? (zt4 s.heap l1 l2).objs.size=some _:=Heap.get?_push_size _ rfl
 have g4:(zt5 s.heap l1 l2).get? (zt3 s.heap l1 l2).objs.size=some _:=Heap.get?_push_of_some _ (Heap.get?_push_size _ rfl)
 have g3:(zt5 s.heap l1 l2).get? (zt2 s.heap l1 l2).objs.size=some _:=Heap.get?_push_of_some _ (Heap.get?_push_of_some _ (Heap.get?_push_size _ rfl))
 have g2:(zt5 s.heap l1 l2).get? (zipH1 s.heap l1).objs.size=some _:=Heap.get?_push_of_some _ (Heap.get?_push_of_some _ (Heap.get?_push_of_some _ (Heap.get?_push_size _ rfl)))
 have g1:(zt5 s.heap l1 l2).get? s.heap.objs.size=some _:=Heap.get?_push_of_some _ (Heap.get?_push_of_some _ (Heap.get?_push_of_some _ (Heap.get?_push_of_some _ (Heap.get?_push_size _ rfl))))
 show _∧_
 rw [z2,z3,z4] at g5
 rw [z1,z2] at g3
 rw [z3] at g4
 rw [z1] at g2
 rw [z4]
 exact⟨⟨_,g5,rfl⟩,h _ g5 g3 g4 ⟨_,g1,rfl,rfl⟩ ⟨_,g2,rfl,rfl⟩ fun c o x=>Heap.get?_push_of_some _ (Heap.get?_push_of_some _ (Heap.get?_push_of_some _ (Heap.get?_push_of_some _ (Heap.get?_push_of_some _ x))))⟩
end
theorem bt_zip:bootBuiltins "zip"=some (.type "zip"):=by decide +kernel
end L2
set_option maxHeartbeats 4000000
namespace L2
open PySem PySem.Spec PyProof.Rows
section
variable {P:Program} {w:World} {A:Around} {R:Result→Shared→Prop} {s:Shared} {elt tg iter tg2 iter2:Expr} {ifs:List Expr} {scope:Scope} {pos:Pos} {it acc:Value} {env:Env}
end
section
variable {X:Cx} {n:Nat} {N':List Str} {scope:Scope} {elt tg iter tg2 iter2:Expr} {ifs:List Expr} {pos:Pos} {pins:List (Addr×Obj)} {σ:St} {H2:Hp} {s2:Shared} {cl:List (Str×Addr)}
end
end L2
set_option maxHeartbeats 1000000
namespace L2
open PySem PySem.Spec PyProof.Rows
section
variable {X:Cx}
end
end L2
set_option maxHeartbeats 4000000
namespace L2
open PySem PySem.Spec PyProof.Rows
theorem codeAny_compLoop_dictT {prog:Program} {w:World} {A:Around} {R:Result→Shared→Prop} {s:Shared} {kx vx target iter:Expr} {scope:Scope} {pos:Pos} {it:Value} {D:Addr} {env:Env} (I:Nat→Shared→Prop)
  (turn:∀ n s,I n s→wpAny (model prog w) A (pyNext it) (fun r s1=>match r with
   | none=>R (.ok .next) s1
   | some v=>wpAny (model prog w) A (letOwnedTupleGo target it v) (fun _ s1'=>wpAny (model prog w) A (assign target env v) (fun _ s2=>
     wpAny (model prog w) A (eval kx env) (fun kv s4=>wpAny (model prog w) A (eval vx env) (fun vv s5=>
       wpAny (model prog w) A (dictSet D kv vv) (fun _ s6=>∃ m,m<n∧I m s6) (notedBy (model prog w) A env fun e s'=>R (.error e) s') s5) (notedBy (model prog w) A env fun e s'=>R (.error e) s') s4) (notedBy (model prog w) A env fun e s'=>R (.error e) s') s2)
     (notedBy (model prog w) A env fun e s'=>R (.error e) s') s1') (notedBy (model prog w) A env fun e s'=>R (.error e) s') s1) (notedBy (model prog w) A env fun e s'=>R (.error e) s') s)
  (n:Nat) (h:I n s):codeAny (model prog w) A (.compLoop (.DictComp kx vx [⟨target,iter,[],0⟩] scope pos) 0 it (.ref D) env) R s:=by
 refine codeAny_loop rfl I (fun n s hI=>?_) n h
 show wpAny _ A ((compTurn (.DictComp kx vx [⟨target,iter,[],0⟩] scope pos) 0 it (.ref D) env).onRaise (fun x=>do noteFrame x env; theTreesLotGoes x)) _ _ s
 refine wpAny_noted ?_
 rw [compTurn_dict]
 refine wpAny_bind (wpAny_standAt (wpAny_bind (wpAny_mono (turn n s hI) (fun r s1 h1=>?_) fun _ _ h'=>h')))
 cases r with
 | none=>exact wpAny_pure h1
 | some v=>
  refine wpAny_bind (wpAny_mono h1 (fun _ s1' h1'=>?_) fun _ _ h'=>h')
  refine wpAny_bind (wpAny_mono h1' (fun _ s2 h2=>?_) fun _ _ h'=>h')
  refine wpAny_bind (wpAny_pure ?_)
  exact wpAny_bind (wpAny_bind (wpAny_mono h2 (fun kv s4 h4=>wpAny_bind (wpAny_holding (wpAny_mono h4 (fun vv s5 h5=>wpAny_bind (wpAny_standAt (wpAny_holding (wpAny_mono h5 (fun _ s6 h6=>wpAny_pure ⟨rfl,h6⟩) fun _ _ h'=>h')))) fun _ _ h'=>h'))) fun _ _ h'=>h'))
def CompOkD (n:Nat) (J:It) (g:TG) (tk tv:TE) (σ:St) (H:Hp) (Q:VK):Prop:=
 ∃ W:Nat→Nat→List (Key×V)→St→Hp→Prop,(∃ m,W 0 m [] (List.replicate n none++σ) H)∧∀ i m kvs σ' H,W i m kvs σ' H→
  (J.stop i H∧∀ D,H D=none→Q (.ref D) (upd H D (.dK kvs)))∨
  (J.go i H∧kvs.length<sizeLine∧∀ x H',J.yld i H x H'→g x σ' H' fun σ2 H2=>tk σ2 H2 fun y H3=>tv σ2 H3 fun v H4=>∃ k,y=kV k∧∃ m',m'<m∧W (i+1) m' (putK kvs k v) σ2 H4)
def tCompD (n:Nat) (wi:TI) (g:InBlock TG) (tk tv:InBlock TE):TE:=fun σ H Q=>wi σ H fun J H1=>∀ cl C ex s Hc,CompOkD n J (g cl C ex s Hc) (tk cl C ex s Hc) (tv cl C ex s Hc) σ H1 Q
section
variable {X:Cx} {n:Nat} {N':List Str} {scope:Scope} {kx vx tg iter:Expr} {pos:Pos} {pins:List (Addr×Obj)} {σ:St} {H2:Hp} {s2:Shared} {cl:List (Str×Addr)}
theorem comp_invO {C D:Addr} {fp:List Addr} {s':Shared} {od:Obj} (hnc:∀ v,od.data≠.cell v) (S:CompScope n N' X scope) (c1:∀ x c,cl.lookup x=some c→X.env.cells.lookup x=some c) (c2:∀ x∈scope.names,x.2=.free→∃ c,cl.lookup x.1=some c)
  (I2:Inv X pins σ H2 s2) (f2:∀ b∈fp,FpOk X pins H2 b) (fl:∀ b∈fp,@LT.lt Nat _ b s2.heap.objs.size) (hD:@Eq Nat D s2.heap.objs.size) (hC:@Eq Nat C (s2.heap.objs.size+1))
  (ho:s'.os=s2.os) (hg:s'.gens=s2.gens) (old:∀ b o,s2.heap.get? b=some o→s'.heap.get? b=some o) (hns:∃ m,s'.heap.Ns C m) (hd:s'.heap.get? D=some od) :
  Inv (cxComp X N' scope cl C fp s2 H2) [(D,od)] (List.replicate n none++σ) H2 s':=by
 have frl:∀ b∈frs X.stack,@LT.lt Nat _ b s2.heap.objs.size:=fun b hb=>by
  obtain⟨_,o,ho,_⟩:=I2.stack.mem hb
  exact Heap.lt_size ho
 have celll:∀ x c,cl.lookup x=some c→c<s2.heap.objs.size:=fun x c e=>by
  obtain⟨v,q⟩:=I2.cell x c (c1 x c e)
  exact q.lt
 have kOf:∀ x,(cxComp X N' scope cl C fp s2 H2).env.kindOf x=(scope.names.lookup x).map fun k=>if (k==NameKind.free&&X.env.scope.kind==.function&&X.env.kindOf x==some .cell) then NameKind.cell else k:=fun x=>lookup_relabel
 have kfree:∀ x,((cxComp X N' scope cl C fp s2 H2).env.kindOf x=some .cell∨(cxComp X N' scope cl C fp s2 H2).env.kindOf x=some .free)→scope.names.lookup x=some .free:=fun x hx=>by
  rw [kOf x] at hx
  cases e:scope.names.lookup x with
  | none=>rw [e] at hx; rcases hx with hx | hx <;> cases hx
  | some kd=>
   rw [e] at hx
   cases kd with
   | free=>rfl
   | «local»=>rcases hx with hx | hx <;> (simp at hx)
   | cell=>exact absurd rfl (S.cell _ (PySem.mem_of_lookup e))
   | globalExplicit=>rcases hx with hx | hx <;> (simp at hx)
   | globalImplicit=>rcases hx with hx | hx <;> (simp at hx)
 have hasC:∀ x,scope.names.lookup x=some .free→∃ c,cl.lookup x=some c:=fun x hx=>c2 _ (PySem.mem_of_lookup hx) rfl
 have hH:∀ a,s2.heap.objs.size≤a→H2 a=none:=fun a ha=>I2.hok.fresh ha
 have ok:(cxComp X N' scope cl C fp s2 H2).Ok:=by
  refine⟨I2.ok.mod,S.kind,I2.ok.glob,I2.ok.blt,?_,fun x y c h1 h2=>?_,fun x hx=>hasC x (kfree x hx),fun x c h=>absurd h (by show ¬ (false=true); decide),I2.ok.hd,I2.ok.frames,.inl rfl,fun b hb=>?_,I2.bs,Nat.le_trans I2.ok.bsz I2.sz,fun b o e hb=>?_,fun b hb z=>?_,I2.stack,I2.stkFree⟩
  ·show s2.heap.objs.size≤C
   omega
  ·exact I2.ok.inj x y c (c1 x c h1) (c1 y c h2)
  ·have:=fl b hb
   refine⟨by show @Ne Nat b C; omega,fun x c e z=>?_⟩
   exact(f2 b hb).2.2.2.2.1 x c (c1 x c e) z
  ·obtain⟨f0,f1,ff,f3,_⟩:=f2 b hb
   rcases f3 with z | z
   ·exact I2.ok.noex b o e z
   ·have q1:@LT.lt Nat _ b X.base.objs.size:=Heap.lt_size e
    have q2:=I2.ok.bsz
    have q3:@LE.le Nat _ X.s₀.heap.objs.size b:=z
    omega
  ·obtain⟨f0,f1,ff,_⟩:=f2 b hb
   exact(List.mem_cons.mp (I2.stkSub b z)).elim f1 ff
 refine⟨ok,ho,by rw [hg]; exact I2.bare,Un.kept old,?_,fun x c e=>?_,?_,fun x c e=>?_,fun p hp=>?_,I2.hok.kept old,?_⟩
 ·obtain⟨m,hn⟩:=hns
  refine⟨m,hn,fun i x v e1 e2 e3=>?_⟩
  have e2':(List.replicate n (none:Option V)++σ)[i]? = some (some v):=e2
  have e1':N'[i]? = some x:=e1
  by_cases hi:i<n
  ·rw [List.getElem?_append_left (by simpa using hi),List.getElem?_replicate] at e2'
   split at e2' <;> cases e2'
  ·obtain⟨j,rfl⟩:∃ j,i=n+j:=⟨i-n,by omega⟩
   rw [List.getElem?_append_right (by simp)] at e2'
   simp only [List.length_replicate,Nat.add_sub_cancel_left] at e2'
   have hj:j<X.N.length:=by rw [← I2.len]; exact(List.getElem?_eq_some_iff.mp e2').1
   have lk:=List.all_eq_true.mp S.look j (List.mem_range.mpr hj)
   rw [e1'] at lk
   have vis:scope.names.lookup x=some .local∨scope.names.lookup x=some .cell∨scope.names.lookup x=some .free:=by
    have e3':(cxComp X N' scope cl C fp s2 H2).env.kindOf x=some .local∨(cxComp X N' scope cl C fp s2 H2).env.kindOf x=some .cell∨(cxComp X N' scope cl C fp s2 H2).env.kindOf x=some .free:=e3
    rcases e3' with z | z | z
    ·rw [kOf x] at z
     cases e:scope.names.lookup x with
     | none=>rw [e] at z; cases z
     | some kd=>
      rw [e] at z
      simp only [Option.map_some] at z
      split at z
      ·cases z
      ·cases z; exact .inl rfl
    ·exact .inr (.inr (kfree x (.inl z)))
    ·exact .inr (.inr (kfree x (.inr z)))
   have lk2:scope.names.lookup x=some .free∧X.N[j]? = some x:=by
    simp only [Bool.or_eq_true,Bool.and_eq_true,Bool.not_eq_true',Bool.or_eq_false_iff,beq_iff_eq,beq_eq_false_iff_ne] at lk
    rcases lk with z | z
    ·exact z
    ·rcases vis with q | q | q
     ·exact absurd q z.1.1
     ·exact absurd q z.1.2
     ·exact absurd q z.2
   obtain⟨m0,hn0,hl0⟩:=I2.loc
   have vX:Vis X.env.scope x:=by
    rcases S.free _ (PySem.mem_of_lookup lk2.1) rfl with z | z
    ·exact .inr (.inl z)
    ·exact .inr (.inr z)
   obtain⟨u,r,l⟩:=hl0 j x v lk2.2 e2' vX
   refine⟨u,r,.inr ⟨?_,?_⟩⟩
   ·rw [kOf x,lk2.1]
    simp only [Option.map_some]
    split
    ·exact .inl rfl
    ·exact .inr rfl
   ·obtain⟨c,hc⟩:=hasC x lk2.1
    refine⟨c,hc,?_⟩
    rcases l with ⟨kl,_⟩ | ⟨_,c',hc',z⟩
    ·rcases S.free _ (PySem.mem_of_lookup lk2.1) rfl with q | q <;> (rw [kl] at q; cases q)
    ·have:=c1 x c hc
     rw [hc'] at this; cases this
     obtain⟨oc,hoc,hdc⟩:=z
     exact⟨oc,old _ _ hoc,hdc⟩
 ·obtain⟨v,oc,hoc,hdc⟩:=I2.cell x c (c1 x c e)
  exact⟨v,oc,old _ _ hoc,hdc⟩
 ·exact hH C (by omega)
 ·exact I2.freeC x c (c1 x c e)
 ·have e:p=(D,od):=by simpa [cxComp] using hp
  subst e
  refine⟨hd,hH D (by omega),by show @Ne Nat D C; omega,fun z=>?_,hnc⟩
  have:=frl D z
  omega
 ·show (List.replicate n none++σ).length=N'.length
  rw [List.length_append,List.length_replicate,S.len,I2.len]
theorem comp_blockD {E0:XK} {it:Addr} {fp:List Addr} {tn:Nat→Heap→Prop} {J:It} {g:InBlock TG} {tk tv:InBlock TE} {Q:VK} {E:Value→Shared→Prop}
  (hc:X.calm=true) (S:CompScope n N' X scope) (c1:∀ x c,cl.lookup x=some c→X.env.cells.lookup x=some c) (c2:∀ x∈scope.names,x.2=.free→∃ c,cl.lookup x.1=some c)
  (I2:Inv X pins σ H2 s2) (T:Turn X.prog X.w X.K tg J fp it tn) (st2:tn 0 s2.heap) (f2:∀ b∈fp,FpOk X pins H2 b)
  (hg:∀ cl C ex s H,PG ((cxComp X N' scope cl C ex s H).exc E0) tg (g cl C ex s H)) (hk:∀ cl C ex s H,PE ((cxComp X N' scope cl C ex s H).exc E0) kx (tk cl C ex s H)) (hv:∀ cl C ex s H,PE ((cxComp X N' scope cl C ex s H).exc E0) vx (tv cl C ex s H))
  (cok:∀ cl C ex s Hc,CompOkD n J (g cl C ex s Hc) (tk cl C ex s Hc) (tv cl C ex s Hc) σ H2 Q) :
  wpAny (model X.prog X.w) X.A newDict (fun acc s3=>wpAny (model X.prog X.w) X.A (newFunctionEnv scope X.env.globals cl [] X.env.qual none .none (some X.env)) (fun cenv s4=>
   codeAny (model X.prog X.w) X.A (.compStart (.DictComp kx vx [⟨tg,iter,[],0⟩] scope pos) 0 (.ref it) acc {cenv with scope:=relabel scope X.env})
    (fun r s'=>match r with | .ok _=>CompBack X pins σ Q acc cenv.locals s' | .error x=>XHeld (cxComp X N' scope cl cenv.locals fp s2 H2) E0 x s') s4) E s3) E s2:=by
 have fl:∀ b∈fp,@LT.lt Nat _ b s2.heap.objs.size:=fun b hb=>by
  obtain⟨o,e,_⟩:=T.obj _ _ st2 b hb
  exact Heap.lt_size e
 have frl:∀ b∈frs X.stack,@LT.lt Nat _ b s2.heap.objs.size:=fun b hb=>by
  obtain⟨_,o,ho,_⟩:=I2.stack.mem hb
  exact Heap.lt_size ho
 have celll:∀ x c,X.env.cells.lookup x=some c→@LT.lt Nat _ c s2.heap.objs.size:=fun x c e=>by
  obtain⟨v,q⟩:=I2.cell x c e
  exact q.lt
 refine wpAny_newObj_type (wpAny_newFunctionEnv S.cell (by intro y hy; simp at hy) (fun h1 hns1 hsb1=>?_) S.kind)
 dsimp only at hns1 hsb1 ⊢
 generalize hH2:s2.heap.push {cls:=.type "dict",dict:=none,data:=.dict #[]}=G at hns1 hsb1 ⊢
 have hC:@Eq Nat G.objs.size (s2.heap.objs.size+1):=by rw [← hH2,Heap.size_push]
 have hDC:s2.heap.objs.size≠G.objs.size:=by show @Ne Nat _ _; omega
 have below:∀ b,@LT.lt Nat _ b s2.heap.objs.size→b≠G.objs.size∧b≠s2.heap.objs.size:=fun b hb=>⟨by show @Ne Nat _ _; omega,Nat.ne_of_lt hb⟩
 have old:∀ b o,s2.heap.get? b=some o→h1.get? b=some o:=fun b o e=>hsb1.extBut b o (below b (Heap.lt_size e)).1 (Heap.get?_push_of_some _ (hH2▸Heap.get?_push_of_some _ e))
 have hacc:h1.get? s2.heap.objs.size=some {cls:=.type "dict",data:=.dict #[]}:=hsb1.extBut _ _ hDC (Heap.get?_push_of_some _ (hH2▸Heap.get?_push_size _ rfl))
 have hst1:tn 0 h1:=T.keep _ _ _ st2 fun b hb o e=>old b o e
 let X':=cxComp X N' scope cl G.objs.size fp s2 H2
 obtain⟨W,⟨m0,w0⟩,turn⟩:=cok cl G.objs.size fp s2 H2
 have hXe:X'.xe=X.xe:=rfl
 have stat:∀ {H':Hp} {ps:List (Addr×Obj)},(∀ b∈fp,H' b=none)→(∀ p∈ps,p.1=s2.heap.objs.size)→∀ b∈fp,FpOk X' ps H' b:=fun {H' ps} hn hp b hb=>by
  obtain⟨f0,f1,ff,f3,f4,f5⟩:=f2 b hb
  refine⟨hn b hb,(below b (fl b hb)).1,fun z=>?_,.inl hb,fun x c e z=>?_,fun p hp' z=>?_⟩
  ·exact(List.mem_cons.mp (I2.stkSub b z)).elim f1 ff
  ·exact f4 x c (c1 x c e) z
  ·have e:p.1=s2.heap.objs.size:=hp p (by simpa [X',cxComp] using hp')
   exact(below b (fl b hb)).2 (z.symm.trans e)
 have loop:∀ s3:Shared,s3={s2 with heap:=h1,toks:=s2.toks+([]:List (Str×Value)).length}→
   codeAny (model X.prog X.w) X.A (.compLoop (.DictComp kx vx [⟨tg,iter,[],0⟩] scope pos) 0 (.ref it) (.ref s2.heap.objs.size) (compEnvC scope cl G.objs.size X.env))
    (fun r s'=>match r with | .ok _=>CompBack X pins σ Q (.ref s2.heap.objs.size) G.objs.size s' | .error x=>XHeld (cxComp X N' scope cl G.objs.size fp s2 H2) E0 x s') s3:=by
  rintro s3 rfl
  have I3:=comp_invO (od:={cls:=.type "dict",data:=.dict #[]}) (fun v z=>by cases z) (s':={s2 with heap:=h1,toks:=s2.toks+([]:List (Str×Value)).length}) S c1 c2 I2 f2 fl rfl hC rfl rfl old ⟨_,hns1⟩ hacc
  have hd0:h1.DictOf (mixKind X.prog X.w) s2.heap.objs.size []:=⟨_,_,_,hacc,⟨rfl,rfl,rfl⟩,rfl,by intro e he; simp at he,.nil,List.nodup_nil⟩
  refine codeAny_compLoop_dictT (fun m s'=>∃ i ys us od σ' H',Inv X' [(s2.heap.objs.size,od)] σ' H' s'∧KV ys us∧s'.heap.DictOf (mixKind X.prog X.w) s2.heap.objs.size us∧tn i s'.heap∧(∀ b∈fp,H' b=none)∧ys.length≤sizeLine∧W i m ys σ' H') ?_ m0
   ⟨0,[],[],_,_,H2,I3,.nil,hd0,hst1,fun b hb=>(f2 b hb).1,Nat.zero_le _,w0⟩
  rintro m s' ⟨i,ys,us,od,σ',H',I',rv,dd,st',fr',hlen,w'⟩
  rcases turn i m ys σ' H' w' with ⟨stop,q⟩ | ⟨go,hlt,step⟩
  ·refine thn (T.done X' rfl rfl rfl hc i _ s' σ' H' _ I' (stat fr' (by simp)) st' stop) fun r s4 ⟨hr,I4⟩=>?_
   subst hr
   show CompBack X pins σ Q (.ref s2.heap.objs.size) G.objs.size s4
   obtain⟨m1,hn1,_⟩:=I4.loc
   obtain⟨pD,nD,_,_,_⟩:=I4.pin (s2.heap.objs.size,od) (List.mem_append_right _ (by simp))
   have nD:H' s2.heap.objs.size=none:=nD
   have pD:s4.heap.get? s2.heap.objs.size=some od:=pD
   have hok:HOk X.prog X.w (upd H' s2.heap.objs.size (.dK ys)) s4.heap:=fun b u e=>by
    by_cases hb:b=s2.heap.objs.size
    ·subst hb
     rw [upd_same] at e; cases e
     exact⟨hlen,beq_eq_false_iff_ne.mpr (Nat.ne_of_gt I2.big),us,rv,dd.at fun o e=>by rw [(I'.pin (s2.heap.objs.size,od) (List.mem_append_right _ (by simp))).1] at e; cases e; exact pD⟩
    ·rw [upd_ne hb] at e
     exact(I4.hok b u e).stay (fun _ _ _ q=>q) (fun c q=>by rw [upd_ne (ne_of_none q nD)]; exact q) fun c xs q=>by rw [upd_ne (ne_of_none q nD)]; exact q
   have un:Un (frs X.stack) fp H2 (upd H' s2.heap.objs.size (.dK ys)) s2.heap s4.heap:=by
    have u0:=I4.base
    refine⟨u0.keep,u0.slot,fun b o e n hx=>?_,u0.there,fun b xs e=>?_,fun b o xs e=>?_,fun b ps e=>?_⟩
    ·rw [upd_ne (below b (Heap.lt_size e)).2]; exact u0.free b o e n hx
    ·have q:=u0.tups b xs e
     rw [upd_ne (ne_of_none q nD)]; exact q
    ·have q:=u0.frzs b o xs e
     rw [upd_ne (ne_of_none q nD)]; exact q
    ·obtain⟨more,q⟩:=u0.tbls b ps e
     exact⟨more,by rw [upd_ne (ne_of_none q nD)]; exact q⟩
   have IX:Inv X pins σ (upd H' s2.heap.objs.size (.dK ys)) s4:=I2.call' (ch:=fp) I4.os un hok I4.bare fun b hb=>by
    obtain⟨f0,f1,ff,f3,f4,f5⟩:=f2 b hb
    exact⟨f3,f1,f4,f5⟩
   have hG0:H' G.objs.size=none:=I4.free
   refine⟨s2.heap.objs.size,_,m1,rfl,IX,hn1,⟨by rw [upd_ne (Ne.symm hDC)]; exact hG0,fun z=>?_,fun z=>?_,.inr ?_,fun x c e z=>?_,fun p hp z=>?_⟩,q _ nD⟩
   ·have q1:@LT.lt Nat _ X.env.locals s2.heap.objs.size:=I2.lt
    have q2:@Eq Nat G.objs.size X.env.locals:=z
    omega
   ·have z':G.objs.size∈frs X.outer:=z
    obtain⟨_,o,ho,_⟩:=I2.funs.mem z'
    have q1:@LT.lt Nat _ G.objs.size s2.heap.objs.size:=Heap.lt_size ho
    omega
   ·have q1:=I2.sz
    show @LE.le Nat _ X.s₀.heap.objs.size G.objs.size
    omega
   ·have q1:=celll x c e
    have q2:@Eq Nat c G.objs.size:=z
    omega
   ·have q1:@LT.lt Nat _ p.1 s2.heap.objs.size:=Heap.lt_size (I2.pin p hp).1
    have q2:@Eq Nat p.1 G.objs.size:=z
    omega
  ·refine thn (T.item X' rfl rfl rfl hc i _ s' σ' H' _ I' (stat fr' (by simp)) st' go) fun r s4 ⟨u,hr,h4⟩=>?_
   subst hr
   show wpAny _ _ (letOwnedTupleGo tg (.ref it) u) _ _ s4
   refine thn h4 fun _ s5 ⟨x,H5,I5,r5,y5,st5,fr5⟩=>?_
   have I5':=I5.pinned (stat fr5 (by simp)) (T.obj _ _ st5)
   have w1:=hg cl G.objs.size fp s2 H2 _ s5 σ' H5 x u _ (I5'.wish _) r5 (step x H5 y5)
   refine wpAny_mono w1 (fun _ s6 ⟨σ6,H6,I6,q6⟩=>?_) fun v s hv=>wpAny_mono (XE.note (X:=cxComp X N' scope cl G.objs.size fp s2 H2) (E:=E0) hv) (fun _ _ z=>z) fun _ _ z=>z
   have w2:=hk cl G.objs.size fp s2 H2 _ s6 σ6 H6 _ I6 q6
   refine wpAny_mono w2 (fun yk s65 ⟨v0,H65,I65,r65,q65⟩=>?_) fun v s hv=>wpAny_mono (XE.note (X:=cxComp X N' scope cl G.objs.size fp s2 H2) (E:=E0) hv) (fun _ _ z=>z) fun _ _ z=>z
   have w3:=hv cl G.objs.size fp s2 H2 _ s65 σ6 H65 _ I65 q65
   refine wpAny_mono w3 (fun y s7 ⟨v,H7,I7w,r7,kk,ek,m',hm',w7⟩=>?_) fun v s hv=>wpAny_mono (XE.note (X:=cxComp X N' scope cl G.objs.size fp s2 H2) (E:=E0) hv) (fun _ _ z=>z) fun _ _ z=>z
   subst ek
   have I7:=I7w.unwish
   have pinD:=I7.pin (s2.heap.objs.size,od) (List.mem_append_right _ (List.mem_append_left _ (by simp)))
   obtain⟨pD,nD,lD,fD,_⟩:=pinD
   have dd7:s7.heap.DictOf (mixKind X.prog X.w) s2.heap.objs.size us:=dd.at fun o e=>by rw [(I'.pin (s2.heap.objs.size,od) (List.mem_append_right _ (by simp))).1] at e; cases e; exact pD
   refine wpAny_dictSet_pairs (knd:=mixKind X.prog X.w) (kV_is r65) dd7 (fun h8 dd8 hs8=>?_) (by rw [← rv.length]; exact hlen)
   obtain⟨o8,es8,ep8,ho8,hx8,hd8,_⟩:=id dd8
   have nD:H7 s2.heap.objs.size=none:=nD
   have I8:Inv X' (pinsAt fp s5.heap) σ6 H7 {s7 with heap:=h8,toks:=s7.toks+1}:=by
    refine(I7.pins_of (pins':=pinsAt fp s5.heap) fun p hp=>I7.pin p (List.mem_append_right _ (List.mem_append_right _ hp))).turned (t':=s7.toks+1) (it:=s2.heap.objs.size) (fun b o hb e=>(hs8.2 b hb).trans e) nD lD (.inr (Nat.le_refl _)) (fun x c e z=>?_) fun p hp z=>?_
    ·have q1:=celll x c (c1 x c e)
     have q2:@Eq Nat c s2.heap.objs.size:=z
     omega
    ·have hp':p∈pinsAt fp s5.heap:=by simpa [X',cxComp] using hp
     have q1:=fl p.1 (of_pinsAt hp').1
     have q2:@Eq Nat p.1 s2.heap.objs.size:=z
     omega
   have I9:Inv X' [(s2.heap.objs.size,o8)] σ6 H7 {s7 with heap:=h8,toks:=s7.toks+1}:=I8.pins_of fun p hp=>by
    have e:p=(s2.heap.objs.size,o8):=by simpa using hp
    subst e
    exact⟨ho8,nD,lD,fD,fun v z=>by rw [hd8] at z; cases z⟩
   refine⟨m',hm',i+1,_,_,o8,σ6,H7,I9,rv.put kk r7,dd8,T.keep _ _ _ st5 fun b hb o e=>?_,fun b hb=>?_,?_,w7⟩
   ·exact(I8.pin (b,o) (List.mem_append_right _ (mem_pinsAt hb e))).1
   ·obtain⟨o,e,d⟩:=T.obj _ _ st5 b hb
    exact(I8.pin (b,o) (List.mem_append_right _ (mem_pinsAt hb e))).2.1
   ·have:=length_putK ys kk v; omega
 exact codeAny_compStart_dict (loop _ rfl) (T.self _ 0 _ _ _ hst1 (loop _ rfl))
theorem pe_dcompE {E0:XK} {wi:TI} {g:InBlock TG} {tk tv:InBlock TE} (fr:Framed X) (hc:X.calm=true) (S:CompScope n N' X scope) (hi:PI (X.exc E0) tg iter wi)
  (hg:∀ cl C ex s H,PG ((cxComp X N' scope cl C ex s H).exc E0) tg (g cl C ex s H)) (hk:∀ cl C ex s H,PE ((cxComp X N' scope cl C ex s H).exc E0) kx (tk cl C ex s H)) (hv:∀ cl C ex s H,PE ((cxComp X N' scope cl C ex s H).exc E0) vx (tv cl C ex s H))
  (hs:∀ x,foldedSetIterable iter X.env x=pure x:=by intro _; rfl):PE (X.exc E0) (.DictComp kx vx [⟨tg,iter,[],0⟩] scope pos) (tCompD n wi g tk tv):=by
 intro pins s σ H Q I h
 rw [PySem.arm_eval_DictComp]
 obtain⟨cl,hcl,c1,c2⟩:=closure_ok (scope:=scope) (env:=X.env) fun x hx hf=>I.ok.has x.1 (S.free x hx hf)
 refine wpAny_comprehension_free (use:=none) rfl hs hcl S.kind S.names (thn (hi pins s σ H _ I h) fun v s1 h1=>thn h1 fun itv s2 h2=>?_)
 obtain⟨it,fp,tn,J,H2,e,I2w,T,st2,f2,cok⟩:=h2
 subst e
 have I2:=I2w.unwish
 refine wpAny_mono (comp_blockD (X:=X) (E0:=E0) (pos:=pos) (iter:=iter) (Q:=Q) (E:=(X.exc E0).xe) hc S c1 c2 I2 T st2 f2 hg hk hv cok) (fun acc s3 h3=>wpAny_mono h3 (fun cenv s4 h4=>codeAny_mono h4 fun r s' hr=>?_) fun _ _ z=>z) fun _ _ z=>z
 cases r with
 | error e=>exact comp_fails I2 f2 fr hr
 | ok f=>
  obtain⟨D,H',m,rfl,I',hn,⟨f0,f1,ff,f3,f4,f5⟩,q⟩:=hr
  refine⟨m,hn,fun h' hs'=>⟨.ref D,H',Inv.wish ?_ _,rfl,q⟩⟩
  exact I'.turned (t':=s'.toks) (fun b o hb e=>(hs'.2 b hb).trans e) f0 f1 f3 f4 f5
end
end L2
set_option maxHeartbeats 1000000
namespace L2
open PySem PySem.Spec PyProof.Rows
section
variable {P:Program} {w:World} {A:Around} {E:Value→Shared→Prop} {s:Shared}
theorem walks_lst {A:Around} (hh:A.handled=none) (it l:Addr) (its:Array Value) (k:Nat) (ne:l≠it) (hk:k≤its.size) :
  WalksS P w A it [it,l] [it] (fun a b=>b=a) (its.size-k) (fun i v=>its[k+i]? = some v) fun i s=>s.heap.IsListIter it l (k+i)∧s.heap.IsList l its where
 sub:=fun b hb=>by rw [List.mem_singleton.mp hb]; exact List.mem_cons_self
 grefl:=fun _=>rfl
 gtrans:=fun a b c h1 h2=>by rw [h2,h1]
 frame:=fun i s h' tk st _ hk=>⟨st.1.at fun o e=>hk it List.mem_cons_self o e,st.2.at fun o e=>hk l (List.mem_cons_of_mem _ List.mem_cons_self) o e⟩
 item:=fun i s Q E hi st q=>by
  have hlt:k+i<its.size:=by omega
  refine wpAny_pyNext_list_item st.1 st.2 (x:=its[k+i]) (by simp [hlt]) fun h1 a1 s1=>?_
  exact q _ _ (by simp [hlt]) ⟨a1,st.2.extBut s1.extBut ne⟩ ⟨fun b o hb e=>s1.extBut b o (fun z=>hb (by rw [z]; exact List.mem_singleton.mpr rfl)) e,rfl,rfl,rfl,Nat.le_refl _⟩
 done:=fun s Q E st q=>wpAny_pyNext_list_end hh st.1 st.2 (by have:=hk; simp; omega) fun h2 e2=>q _ ⟨fun b o hb e=>e2 b o (fun z=>hb (by rw [z]; exact List.mem_singleton.mpr rfl)) e,rfl,rfl,rfl,Nat.le_refl _⟩
 self:=fun i s Q E st q=>wpAny_pyIter_listiter st.1 q
theorem walks_tup {A:Around} (hh:A.handled=none) (it l:Addr) (its:Array Value) (k:Nat) (ne:l≠it) (hk:k≤its.size) :
  WalksS P w A it [it,l] [it] (fun a b=>b=a) (its.size-k) (fun i v=>its[k+i]? = some v) fun i s=>IsTupIter s.heap it l (k+i)∧IsTup s.heap l its where
 sub:=fun b hb=>by rw [List.mem_singleton.mp hb]; exact List.mem_cons_self
 grefl:=fun _=>rfl
 gtrans:=fun a b c h1 h2=>by rw [h2,h1]
 frame:=fun i s h' tk st _ hk=>⟨let ⟨o,ho,r⟩:=st.1; ⟨o,hk it List.mem_cons_self o ho,r⟩,let ⟨o,ho,r⟩:=st.2; ⟨o,hk l (List.mem_cons_of_mem _ List.mem_cons_self) o ho,r⟩⟩
 item:=fun i s Q E hi st q=>by
  have hlt:k+i<its.size:=by omega
  refine next_tuple_item st.1 st.2 (x:=its[k+i]) (by simp [hlt]) fun h1 a1 s1=>?_
  exact q _ _ (by simp [hlt]) ⟨a1,st.2.extBut s1.extBut ne⟩ ⟨fun b o hb e=>s1.extBut b o (fun z=>hb (by rw [z]; exact List.mem_singleton.mpr rfl)) e,rfl,rfl,rfl,Nat.le_refl _⟩
 done:=fun s Q E st q=>next_tuple_end hh st.1 st.2 (by have:=hk; simp; omega) fun h2 e2=>q _ ⟨fun b o hb e=>e2 b o (fun z=>hb (by rw [z]; exact List.mem_singleton.mpr rfl)) e,rfl,rfl,rfl,Nat.le_refl _⟩
 self:=fun i s Q E st q=>wpAny_pyIter_tupleiter (show s.heap.IsTupleIter it l (k+i) from st.1) q
theorem items_rest {its acc:Array Value} {k:Nat} (hk:k≤its.size) (h:ItemsOf (fun i v=>its[k+i]? = some v) acc (its.size-k)):acc.toList=its.toList.drop k:=by
 refine List.ext_getElem? fun i=>?_
 rw [List.getElem?_drop,Array.getElem?_toList,Array.getElem?_toList]
 cases e:acc[i]? with
 | some v=>exact(h.2 i v e).symm
 | none=>
  have hs:=h.1
  have : acc.size≤i:=by simpa using e
  symm
  simp
  omega
theorem star_lst {l:Addr} {its:Array Value} {Q:List Value→Shared→Prop} (hh:A.handled=none) (hl:s.heap.IsList l its) (h1:1≤its.size) (hz:its.size≤sizeLine)
  (q:∀ h' t',(∀ b o,s.heap.get? b=some o→h'.get? b=some o)→wpAny (model P w) A (newList (its.toList.drop 1)) (fun v s2=>Q (its.toList.take 1++[v]) s2) E {s with heap:=h',toks:=t'}):wpAny (model P w) A (unpackItems (.ref l) 2 (some 1)) Q E s:=by
 have ne:l≠s.heap.objs.size:=by
  obtain⟨o,e,_⟩:=hl
  exact Nat.ne_of_lt (Heap.lt_size e)
 unfold unpackItems notIterableAtAll
 refine wpAny_bind (wpAny_bind (wpAny_specialOf hl.typeIs slot_list_iter.lookup (wpAny_pure ?_)))
 simp only [Bool.false_eq_true,if_false]
 refine wpAny_bind (wpAny_holding (wpAny_pyIter_list hl ?_))
 refine wpAny_bind (wpAny_holding (draw_lst ne 1 0 _ _ ⟨_,Heap.get?_push_size _ rfl,rfl,rfl⟩ (hl.push _) (by omega) fun h2 a2 s2=>?_))
 rw [List.drop_zero,if_neg (by rw [List.length_take,Array.length_toList]; omega)]
 refine wpAny_bind (wpAny_holding (wpAny_collect_iter (T:="list_iterator") (.inr (.inr (.inl rfl))) (walks_lst (show A.in1.handled=none from hh) s.heap.objs.size l its 1 ne h1) (fun i s st=>st.1.typeIs) ⟨a2,(hl.push _).extBut s2.extBut ne⟩
  (fun b hb=>?_) List.mem_cons_self (fun s' acc mv ia=>?_) (by omega)))
 ·have hz':s.heap.objs.size<h2.objs.size:=by
   obtain⟨o,e,_⟩:=a2
   exact Heap.lt_size e
  rcases List.mem_cons.mp hb with rfl | hb
  ·exact hz'
  ·rw [List.mem_singleton.mp hb]
   obtain⟨o,e,_⟩:=hl
   exact Nat.lt_trans (Heap.lt_size e) hz'
 ·rw [items_rest h1 ia]
  have hlen:¬ ((its.toList.drop 1).length<2-1-1):=by omega
  rw [if_neg hlen]
  refine wpAny_bind ?_
  have e1:(its.toList.drop 1).take ((its.toList.drop 1).length - (2-1-1))=its.toList.drop 1:=by rw [show (its.toList.drop 1).length - (2-1-1)=(its.toList.drop 1).length from by omega,List.take_length]
  have e2:(its.toList.drop 1).drop ((its.toList.drop 1).length - (2-1-1))=[]:=by rw [show (its.toList.drop 1).length - (2-1-1)=(its.toList.drop 1).length from by omega,List.drop_length]
  rw [e1,e2]
  obtain⟨mh,mg,md,mo,mt⟩:=mv
  obtain⟨h',g',d',t',o'⟩:=s'
  simp only at mg md mo mh
  subst mg md mo
  refine wpAny_mono (q h' t' (fun b o e=>?_)) (fun v s3 z=>wpAny_pure ?_) fun _ _ z=>z
  ·have nb:b≠s.heap.objs.size:=Nat.ne_of_lt (Heap.lt_size e)
   exact mh b o (fun z=>nb (List.mem_singleton.mp z)) (s2.extBut b o nb (Heap.get?_push_of_some _ e))
  ·rw [List.append_nil]; exact z
theorem star_tup {l:Addr} {its:Array Value} {Q:List Value→Shared→Prop} (hh:A.handled=none) (hl:IsTup s.heap l its) (h1:1≤its.size) (hz:its.size≤sizeLine)
  (q:∀ h' t',(∀ b o,s.heap.get? b=some o→h'.get? b=some o)→wpAny (model P w) A (newList (its.toList.drop 1)) (fun v s2=>Q (its.toList.take 1++[v]) s2) E {s with heap:=h',toks:=t'}):wpAny (model P w) A (unpackItems (.ref l) 2 (some 1)) Q E s:=by
 have ne:l≠s.heap.objs.size:=by
  obtain⟨o,e,_⟩:=hl
  exact Nat.ne_of_lt (Heap.lt_size e)
 unfold unpackItems notIterableAtAll
 refine wpAny_bind (wpAny_bind (wpAny_specialOf hl.typeIs slot_tuple_iter.lookup (wpAny_pure ?_)))
 simp only [Bool.false_eq_true,if_false]
 refine wpAny_bind (wpAny_holding (iter_tuple hl ?_))
 refine wpAny_bind (wpAny_holding (draw_tuple ne 1 0 _ _ ⟨_,Heap.get?_push_size _ rfl,rfl,rfl⟩ (hl.push _) (by omega) fun h2 a2 s2=>?_))
 rw [List.drop_zero,if_neg (by rw [List.length_take,Array.length_toList]; omega)]
 refine wpAny_bind (wpAny_holding (wpAny_collect_iter (T:="tuple_iterator") (.inr (.inr (.inr rfl))) (walks_tup (show A.in1.handled=none from hh) s.heap.objs.size l its 1 ne h1) (fun i s st=>st.1.typeIs) ⟨a2,(hl.push _).extBut s2.extBut ne⟩
  (fun b hb=>?_) List.mem_cons_self (fun s' acc mv ia=>?_) (by omega)))
 ·have hz':s.heap.objs.size<h2.objs.size:=by
   obtain⟨o,e,_⟩:=a2
   exact Heap.lt_size e
  rcases List.mem_cons.mp hb with rfl | hb
  ·exact hz'
  ·rw [List.mem_singleton.mp hb]
   obtain⟨o,e,_⟩:=hl
   exact Nat.lt_trans (Heap.lt_size e) hz'
 ·rw [items_rest h1 ia]
  have hlen:¬ ((its.toList.drop 1).length<2-1-1):=by omega
  rw [if_neg hlen]
  refine wpAny_bind ?_
  have e1:(its.toList.drop 1).take ((its.toList.drop 1).length - (2-1-1))=its.toList.drop 1:=by rw [show (its.toList.drop 1).length - (2-1-1)=(its.toList.drop 1).length from by omega,List.take_length]
  have e2:(its.toList.drop 1).drop ((its.toList.drop 1).length - (2-1-1))=[]:=by rw [show (its.toList.drop 1).length - (2-1-1)=(its.toList.drop 1).length from by omega,List.drop_length]
  rw [e1,e2]
  obtain⟨mh,mg,md,mo,mt⟩:=mv
  obtain⟨h',g',d',t',o'⟩:=s'
  simp only at mg md mo mh
  subst mg md mo
  refine wpAny_mono (q h' t' (fun b o e=>?_)) (fun v s3 z=>wpAny_pure ?_) fun _ _ z=>z
  ·have nb:b≠s.heap.objs.size:=Nat.ne_of_lt (Heap.lt_size e)
   exact mh b o (fun z=>nb (List.mem_singleton.mp z)) (s2.extBut b o nb (Heap.get?_push_of_some _ e))
  ·rw [List.append_nil]; exact z
def gStar (K:PySem.W.Frag) (t:TGs):TG:=fun v σ H Q=>∃ a x xs,v=.ref a∧(SqL K H a (x::xs)∨SqT K H a (x::xs))∧∀ l,H l=none→t [x,.ref l] σ (upd H l (.lst xs)) Q
theorem pg_star {X:Cx} {e1 e2:Expr} {p pos:Pos} {k:Nat} {t:TGs} (hc:X.calm=true) (h:PGs X [e1,e2] t) (hst:(assignEach [e1,.Starred e2 p] X.env).findIdx? (·.1)=some 1:=by rfl)
  (hm:(assignEach [e1,.Starred e2 p] X.env).map (·.2)=(assignEach [e1,e2] X.env).map (·.2):=by rfl) (hn:(assignEach [e1,.Starred e2 p] X.env).length=2:=by rfl):PG X (.Tuple [e1,.Starred e2 p] k pos) (gStar X.K t):=by
 intro pins s σ H v u Q I r hw
 obtain⟨a,x,xs,rfl,hq,hw⟩:=hw
 cases r
 rw [assign_Tuple]
 refine wpAny_bind (wpAny_standAt ?_)
 unfold unpack
 rw [hst,hn,hm]
 have fin:∀ (its:List Value) (h':Heap) (t':Nat),Vals (x::xs) its→(x::xs).length≤sizeLine→(∀ b o,s.heap.get? b=some o→h'.get? b=some o)→
   wpAny (model X.prog X.w) X.A (newList (its.drop 1)) (fun v s2=>wpAny (model X.prog X.w) X.A (assignInOrder ((assignEach [e1,e2] X.env).map (·.2)) (its.take 1++[v])) (fun _ s'=>∃ σ' H',Inv X pins σ' H' s'∧Q σ' H') X.xe s2) X.xe {s with heap:=h',toks:=t'}:=by
  intro its h' t' rv hz hk
  cases rv with
  | cons r0 rs=>
   rename_i u0 us
   show wpAny _ _ (newList us) _ _ _
   have I1:Inv X pins σ H {s with heap:=h',toks:=t'}:=I.kept hk
   have hlen:=rs.length
   rw [List.length_cons] at hz
   refine wpAny_newObj_type ?_ (by show us.toArray.size≤sizeLine; rw [List.size_toArray]; omega)
   have hf:H h'.objs.size=none:=I1.hok.fresh (Nat.le_refl _)
   have I2:Inv X pins σ (upd H h'.objs.size (.lst xs)) {s with heap:=h'.push {cls:=.type "list",data:=.seq us.toArray},toks:=t'}:=
    I1.laid (t':=t') (fun b u e=>Heap.get?_push_of_some _ e) (Nat.le_refl _) ⟨by omega,us,0,rs,Heap.get?_push_size _ rfl⟩
   exact h pins _ σ _ [x,.ref h'.objs.size] [u0,.ref h'.objs.size] Q I2 (.cons r0 (.cons rfl .nil)) (hw _ hf)
 rcases hq with hq | hq
 ·obtain⟨its,rv,pl,hz⟩:=I.list hq
  have hl:=rv.length
  rw [List.length_cons] at hl hz
  refine wpAny_bind (wpAny_holding (star_lst (I.ok.hd hc) pl.isList (by rw [List.size_toArray]; omega) (by rw [List.size_toArray]; omega) fun h' t' hk=>?_))
  have:=fin its h' t' rv (by rw [List.length_cons]; exact hz) hk
  simpa using this
 ·obtain⟨its,rv,ht,hz⟩:=I.tuple hq
  have hl:=rv.length
  rw [List.length_cons] at hl hz
  refine wpAny_bind (wpAny_holding (star_tup (I.ok.hd hc) ht (by rw [List.size_toArray]; omega) (by rw [List.size_toArray]; omega) fun h' t' hk=>?_))
  have:=fin its h' t' rv (by rw [List.length_cons]; exact hz) hk
  simpa using this
end
section
variable {X:Cx} {E:Value→Shared→Prop}
theorem PE.wish {e:Expr} {t:TE} (h:PE X.nox e t) (E:Value→Shared→Prop):PE (X.wish E) e t:=PE.nox (X:=X.wish E) h
theorem PG.wish {e:Expr} {t:TG} (h:PG X.nox e t) (E:Value→Shared→Prop):PG (X.wish E) e t:=fun pins s σ H v u Q I r hw=>
 wpAny_mono (h pins s σ H v u Q (I.unwish.wish _) r hw) (fun _ _ ⟨σ',H',I',q⟩=>⟨σ',H',I'.unwish.wish _,q⟩) fun _ _ z=>False.elim z
theorem PI.wish {tg e:Expr} {t:TI} (h:PI X.nox tg e t) (E:Value→Shared→Prop):PI (X.wish E) tg e t:=fun pins s σ H R I hw=>
 wpAny_mono (h pins s σ H R (I.unwish.wish _) hw) (fun _ _ z=>wpAny_mono z (fun _ _ ⟨it,fp,tn,J,H2,e,I2,T,st2,f2,r⟩=>⟨it,fp,tn,J,H2,e,I2.unwish.wish _,T,st2,f2,r⟩) fun _ _ z=>False.elim z) fun _ _ z=>False.elim z
theorem pe_dcomp {n:Nat} {N':List Str} {scope:Scope} {kx vx tg iter:Expr} {pos:Pos} {wi:TI} {g:InBlock TG} {tk tv:InBlock TE} (fr:Framed X) (hc:X.calm=true) (S:CompScope n N' X.nox scope) (hi:PI X.nox tg iter wi)
  (hg:∀ cl C ex s H,PG (cxComp X.nox N' scope cl C ex s H) tg (g cl C ex s H)) (hk:∀ cl C ex s H,PE (cxComp X.nox N' scope cl C ex s H) kx (tk cl C ex s H)) (hv:∀ cl C ex s H,PE (cxComp X.nox N' scope cl C ex s H) vx (tv cl C ex s H))
  (hs:∀ x,foldedSetIterable iter X.env x=pure x:=by intro _; rfl):PE X.nox (.DictComp kx vx [⟨tg,iter,[],0⟩] scope pos) (tCompD n wi g tk tv):=by
 intro pins s σ H Q I h
 have S':CompScope n N' X scope:=⟨S.kind,S.names,S.cell,S.free,S.nd,S.len,S.look⟩
 refine wpAny_mono (pe_dcompE (X:=X) (E0:=fun _ _ _=>False) fr hc S' (hi.wish _) (fun cl C ex s H=>PG.wish (X:=cxComp X N' scope cl C ex s H) (hg cl C ex s H) _) (fun cl C ex s H=>PE.wish (X:=cxComp X N' scope cl C ex s H) (hk cl C ex s H) _) (fun cl C ex s H=>PE.wish (X:=cxComp X N' scope cl C ex s H) (hv cl C ex s H) _) hs pins s σ H Q (I.unwish.wish _) h)
  (fun _ _ ⟨v,H',I',r,q⟩=>⟨v,H',I'.unwish.wish _,r,q⟩) fun e s z=>?_
 obtain⟨a,L,cls,σ',H',fl,S,env0,rest,h1,h2,h3,h4,h5,h6,h7,h8,hE⟩:=z
 exact hE
end
theorem merged_all {K:Type} [DecidableEq K]:∀ (more kvs:List (K×Value)),((kvs++more).map (·.1)).Nodup→merged kvs more=kvs++more
 | [],kvs,_=>by rw [List.append_nil]; rfl
 | kv::r,kvs,h=>by
  have h0:¬ kv.1∈kvs.map (·.1):=by
   rw [List.map_append,List.map_cons] at h
   intro hm
   exact(List.nodup_append.mp h).2.2 _ hm _ List.mem_cons_self rfl
  have e:stored kvs kv.1 kv.2=kvs++[kv]:=by
   unfold stored
   rw [if_neg]
   intro hs
   obtain⟨x,hx,e⟩:=List.any_eq_true.mp hs
   exact h0 (List.mem_map.mpr ⟨x,hx,of_decide_eq_true e⟩)
  show merged (stored kvs kv.1 kv.2) r=_
  rw [e,merged_all r (kvs++[kv]) (by simpa using h)]
  simp
section
variable {P:Program} {w:World} {A:Around} {E:Value→Shared→Prop} {s:Shared}
theorem call_dictM {Q:Value→Shared→Prop} {d:Addr} {kvs:List (Key×Value)} (hs:(d==sysModules)=false) (hm:s.heap.DictOf (mixKind P w) d kvs) (hsz:kvs.length≤sizeLine)
  (h:∀ h',h'.DictOf (mixKind P w) s.heap.objs.size kvs→(∀ b o,s.heap.get? b=some o→h'.get? b=some o)→Q (.ref s.heap.objs.size) {s with heap:=h'}):wpAny (model P w) A (call (.type "dict") [.ref d]) Q E s:=by
 have hlt:d<s.heap.objs.size:=by obtain⟨o,_,_,ho,_⟩:=hm; exact Heap.lt_size ho
 refine callType_codes (Q₁:=fun obj s₁=>obj=.ref s.heap.objs.size∧s₁={s with heap:=s.heap.push {cls:=.type "dict",data:=.dict #[]}}) F.kt_called_dict (F.kt_typeCall_dict_1 _) F.entry_dict_init (kt_code_dict_new _ ⟨rfl,rfl⟩) ?_
 rintro obj s₁ ⟨rfl,rfl⟩
 have hnew:(s.heap.push {cls:=.type "dict",data:=.dict #[]}).DictOf (mixKind P w) s.heap.objs.size []:=Heap.DictOf.new s.heap
 have hold:(s.heap.push {cls:=.type "dict",data:=.dict #[]}).DictOf (mixKind P w) d kvs:=hm.push _
 refine⟨hnew.typeIs,F.args_dict_init_2 _ _,?_⟩
 unfold Builtin.«dict.__init__»
 refine wpAny_bind ?_
 unfold Builtin.Dict.selfAndRest
 refine wpAny_bind (wpAny_notOrdered_dict hnew.typeIs ?_)
 show wpAny _ _ (pure (s.heap.objs.size,[Value.ref d])) _ _ _
 refine wpAny_pure ?_
 show wpAny _ _ (Builtin.Dict.updateFrom "dict.__init__" s.heap.objs.size (.ref d) [] .none) _ _ _
 unfold Builtin.Dict.updateFrom
 refine wpAny_bind (wpAny_typeOf hold.typeIs ?_)
 rw [if_neg (by decide)]
 refine wpAny_bind ?_
 unfold Builtin.Dict.merge
 refine wpAny_bind ?_
 unfold Builtin.Dict.readDirectly
 refine wpAny_bind (wpAny_isInstance hold.typeIs isSubtype_dict_dict ?_)
 simp only [Bool.not_true,Bool.false_eq_true,if_false]
 refine wpAny_bind (wpAny_specialOf hold.typeIs F.slot_dict_iter.lookup (wpAny_pure ?_))
 simp only [beq_self_eq_true,if_true]
 refine wpAny_bind (wpAny_pure ?_)
 refine wpAny_mergeDict (knd:=mixKind P w) (Nat.ne_of_gt hlt) hs hnew hold (fun h' hd' _ sb=>?_) (by simpa using hsz)
 have hn:(kvs.map (·.1)).Nodup:=by obtain⟨_,_,_,_,_,_,_,_,hn⟩:=hm; exact hn
 rw [merged_all kvs [] (by simpa using hn),List.nil_append] at hd'
 show wpAny _ _ (Builtin.Dict.addKeywords s.heap.objs.size []>>=_) _ _ _
 unfold Builtin.Dict.addKeywords
 refine wpAny_bind (wpAny_pure ?_)
 exact wpAny_pure ⟨rfl,h h' hd' fun b o e=>(sb.2 b (Nat.ne_of_lt (Heap.lt_size e))).trans (Heap.get?_push_of_some _ e)⟩
end
theorem call_dictD {X:Cx}:CallR X (.type "dict") (fun xs H Q=>∃ a kvs,xs=[.ref a]∧H a=some (.dK kvs)∧∀ d,H d=none→Q (.ref d) (upd H d (.dK kvs))):=by
 intro pins s σ H xs us Q I r h
 obtain⟨a,kvs,rfl,e,q⟩:=h
 obtain⟨u,rfl,rx⟩:=vals1 r
 cases rx
 obtain⟨hl,hs,vs,kv,hm⟩:=(show ObjOk X.prog X.w H s.heap a (.dK kvs) from I.hok a _ e)
 have hlen:vs.length=kvs.length:=(Paired.length kv).symm
 refine call_dictM hs hm (by rw [hlen]; exact hl) fun h' hd' kp=>?_
 have hfr:H s.heap.objs.size=none:=I.hok.fresh (Nat.le_refl _)
 refine⟨.ref s.heap.objs.size,_,I.laid (t':=s.toks) kp (Nat.le_refl _) (show ObjOk X.prog X.w _ h' _ (.dK kvs) from ⟨hl,?_,vs,kv,hd'⟩),rfl,q _ hfr⟩
 have hb:=I.big
 exact beq_false_of_ne (Nat.ne_of_gt hb)
end L2
namespace L2
open PySem PySem.Spec PyProof.Rows PySem.Builtin.Str
section
variable {X:Cx}
theorem strs_vals:∀ l:List (Str×Tok),Vals ((l.map (·.1)).map V.str) (strValues l)
 | []=>.nil
 | (x,t)::r=>.cons ⟨t,rfl⟩ (strs_vals r)
theorem mt_split:MtR X "str.split" (fun x xs H Q=>∃ (z y:Str),x=.str z∧xs=[.str y]∧(y.length==0)=false∧z.length<sizeLine∧(Txt.split z y).length≤sizeLine∧∀ l,H l=none→Q (.ref l) (upd H l (.lst ((Txt.split z y).map V.str)))):=by
 intro pins s σ H x xs v us Q I rx rs h
 obtain⟨z,y,rfl,rfl,hy,hz,hn,q⟩:=h
 obtain⟨t,rfl⟩:=rx
 obtain⟨u,rfl,ru⟩:=vals1 rs
 obtain⟨t2,rfl⟩:=ru
 have fin:∀ (l:List (Str×Tok)) (k:Nat),l.map (·.1)=Txt.split z y→EP X pins σ Q (.ref s.heap.objs.size) {s with heap:=s.heap.push {cls:=.type "list",data:=.seq (strValues l).toArray},toks:=k}:=fun l k e=>by
  have hf:H s.heap.objs.size=none:=I.hok.fresh (Nat.le_refl _)
  refine⟨.ref s.heap.objs.size,upd H s.heap.objs.size (.lst ((Txt.split z y).map V.str)),I.laid (t':=k) (fun b u e=>Heap.get?_push_of_some _ e) (Nat.le_refl _) ?_,rfl,q _ hf⟩
  refine⟨by rw [List.length_map]; exact hn,strValues l,0,?_,Heap.get?_push_size _ rfl⟩
  rw [← e]; exact strs_vals l
 cases h1:(decide (z.length<y.length)||decide (strKind z<strKind y))
 ·cases hf:(occurrences z y 0 z.length (z.length+1)).isEmpty
  ·have e:Txt.split z y=partsBetween z (occurrences z y 0 z.length (z.length+1)) y.length:=(if_neg (ne_true_of_eq_false h1)).trans (if_neg (ne_true_of_eq_false hf))
   refine call_meets F.slot_str_split (typeIs_str _ _ _) F.entry_str_split (F.args_str_split_2 _ _) (meets_str_split_sep z y t t2 h1 hy hf (Nat.le_of_lt hz) (by rw [← e]; exact hn)) ?_
   have:=fin (numbered s.toks (partsBetween z (occurrences z y 0 z.length (z.length+1)) y.length)) (s.toks+(partsBetween z (occurrences z y 0 z.length (z.length+1)) y.length).length) ((numbered_texts _ _).trans e.symm)
   rw [← strsFrom_eq] at this
   exact this
  ·exact call_meets F.slot_str_split (typeIs_str _ _ _) F.entry_str_split (F.args_str_split_2 _ _) (meets_str_split_not_found z y t t2 h1 hy hf) (fin [(z,t)] s.toks ((if_neg (ne_true_of_eq_false h1)).trans (if_pos hf)).symm)
 ·exact call_meets F.slot_str_split (typeIs_str _ _ _) F.entry_str_split (F.args_str_split_2 _ _) (meets_str_split_cannot_occur z y t t2 h1) (fin [(z,t)] s.toks (if_pos h1).symm)
end
theorem cps_app (a b:Str):(a++b).cps.toList=a.cps.toList++b.cps.toList:=by
 show (a.cps++b.cps).toList=_
 simp
theorem cut_eq {c:Nat}:∀ {a b r q:List Nat},c∉a→c∉b→a++c::r=b++c::q→a=b∧r=q
 | [],[],_,_,_,_,e=>⟨rfl,(List.cons.inj e).2⟩
 | [],y::b,_,_,_,hb,e=>absurd (List.mem_cons.mpr (.inl (List.cons.inj e).1)) hb
 | x::a,[],_,_,ha,_,e=>absurd (List.mem_cons.mpr (.inl (List.cons.inj e).1.symm)) ha
 | x::a,y::b,_,_,ha,hb,e=>by
  obtain⟨e1,e2⟩:=List.cons.inj e
  obtain⟨h1,h2⟩:=cut_eq (fun h=>ha (List.mem_cons_of_mem _ h)) (fun h=>hb (List.mem_cons_of_mem _ h)) e2
  exact⟨by rw [e1,h1],h2⟩
theorem str_eq {a b:Str} (h:a.cps.toList=b.cps.toList):a=b:=by
 obtain⟨x⟩:=a
 obtain⟨y⟩:=b
 congr 1
 exact Array.toList_inj.mp h
theorem join_two (c:Nat) (x y:Str) (r:List Str):(Str.join ⟨#[c]⟩ (x::y::r)).cps.toList=x.cps.toList++c::(Str.join ⟨#[c]⟩ (y::r)).cps.toList:=by
 show (x++(⟨#[c]⟩:Str)++Str.join ⟨#[c]⟩ (y::r)).cps.toList=_
 rw [cps_app,cps_app]
 simp
theorem join_inj (c:Nat):∀ (A B:List Str),A≠[]→B≠[]→(∀ p∈A,c∉p.cps.toList)→(∀ p∈B,c∉p.cps.toList)→Str.join ⟨#[c]⟩ A=Str.join ⟨#[c]⟩ B→A=B
 | [],_,h,_,_,_,_=>absurd rfl h
 | _::_,[],_,h,_,_,_=>absurd rfl h
 | [x],[y],_,_,_,_,e=>by rw [show x=y from e]
 | [x],y::z::r,_,_,hA,_,e=>by
  have e':x.cps.toList=_:=(congrArg (fun s:Str=>s.cps.toList) e).trans (join_two c y z r)
  exact absurd (by rw [e']; simp) (hA x List.mem_cons_self)
 | x::z::r,[y],_,_,_,hB,e=>by
  have e':y.cps.toList=_:=(congrArg (fun s:Str=>s.cps.toList) e.symm).trans (join_two c x z r)
  exact absurd (by rw [e']; simp) (hB y List.mem_cons_self)
 | x::x2::r,y::y2::q,_,_,hA,hB,e=>by
  have e':=(join_two c x x2 r).symm.trans ((congrArg (fun s:Str=>s.cps.toList) e).trans (join_two c y y2 q))
  obtain⟨h1,h2⟩:=cut_eq (hA x List.mem_cons_self) (hB y List.mem_cons_self) e'
  rw [str_eq h1,join_inj c (x2::r) (y2::q) (by simp) (by simp) (fun p hp=>hA p (List.mem_cons_of_mem _ hp)) (fun p hp=>hB p (List.mem_cons_of_mem _ hp)) (str_eq h2)]
theorem split_join (c:Nat) {A:List Str} (hA:A≠[]) (hf:∀ p∈A,c∉p.cps.toList):Txt.split (Str.join ⟨#[c]⟩ A) ⟨#[c]⟩=A:=by
 refine join_inj c _ _ ?_ hA (StrLaws.split_free _ c) hf (StrLaws.join_split _ _)
 unfold Txt.split
 split
 ·simp
 ·split
  ·simp
  ·rw [StrLaws.partsBetween_eq]
   obtain⟨p,r,e⟩:=StrLaws.partsFrom_ne (Str.join ⟨#[c]⟩ A) (Str.length ⟨#[c]⟩) 0 (occurrences (Str.join ⟨#[c]⟩ A) ⟨#[c]⟩ 0 (Str.join ⟨#[c]⟩ A).length ((Str.join ⟨#[c]⟩ A).length+1))
   rw [e]; simp
end L2
namespace L2
open PySem PySem.Spec PyProof.Rows
section
variable {P:Program} {w:World} {A:Around} {E:Value→Shared→Prop} {s:Shared} {It1 It2:Nat→Heap→Prop} {z TI TO i1 i2 l1 l2:Addr} {xs ys:Array Value} {k:Nat} {x y a b:Value}
theorem z_itemN (hi:∀ k h,It1 k h→i1<h.objs.size) (hi':∀ k h,It2 k h→i2<h.objs.size) {Q:Option Value→Shared→Prop} (D:ZipApart z TI TO i1 i2 l1 l2) (F1:Feed P w i1 l1 xs It1) (F2:Feed P w i2 l2 ys It2)
  (hz:ZAt s.heap z TI TO .none false) (hTI:IsPair s.heap TI (.ref i1) (.ref i2)) (hTO:IsPair s.heap TO a b) (h1:It1 k s.heap) (h2:It2 k s.heap) (hx:xs[k]? = some x) (hy:ys[k]? = some y)
  (hQ:∀ h',ZAt h' z TI TO (rawInt (s.heap.objs.size:Int)) false→IsPair h' TI (.ref i1) (.ref i2)→(∃ a b,IsPair h' TO a b)→It1 (k+1) h'→It2 (k+1) h'→IsPair h' s.heap.objs.size x y→(∀ c o,c≠z→c≠TO→c≠i1→c≠i2→s.heap.get? c=some o→h'.get? c=some o)→Q (some (.ref s.heap.objs.size)) {s with heap:=h'}) :
  wpAny (model P w) A (pyNext (.ref z)) Q E s:=by
 have hT:s.TypeIs (.ref z) "zip":=⟨_,hz,rfl⟩
 have hzl:=Heap.lt_size hz
 have hTOl:=Heap.lt_size hTO
 have hi1l:=hi _ _ h1
 have hi2l:=hi' _ _ h2
 unfold pyNext
 refine wpAny_bind (wpAny_attempt (wpAny_callSpecial?_slot (name:=Str.ofString "__next__") hT F.slot_zip_next (wpAny_call_entry F.slot_zip_next hT F.entry_zip_next ?_ (F.args_zip_next_1 _))))
 show wpAny _ _ (field (.ref z) 2>>=_) _ _ _
 refine wpAny_bind (wpAny_field hz rfl (x:=.bool false) rfl ?_)
 show wpAny _ _ (field (.ref z) 3>>=_) _ _ _
 refine wpAny_bind (wpAny_field hz rfl (x:=.ref TI) rfl (wpAny_bind (wpAny_seqItems hTI rfl ?_)))
 show wpAny _ _ (Builtin.SmallTypes.ownedTupleIsFree (.ref z)>>=_) _ _ _
 refine wpAny_bind ?_
 unfold Builtin.SmallTypes.ownedTupleIsFree
 refine wpAny_bind (wpAny_field hz rfl (x:=.none) rfl (wpAny_pure ?_))
 simp only [if_true]
 refine wpAny_bind (wpAny_rule ?_)
 refine wpAny_bind (wpAny_field hz rfl (x:=.ref TO) rfl ?_)
 refine wpAny_bind (wpAny_setField_rec hz (by simp) fun h₁ hz₁ hs₁=>?_)
 replace hz₁:ZAt h₁ z TI TO .ellipsis false:=hz₁
 refine wpAny_bind ?_
 simp only [List.zipIdx_cons,List.zipIdx_nil,List.forIn_cons,List.forIn_nil]
 have kp1:∀ c o,c≠z→s.heap.get? c=some o→h₁.get? c=some o:=fun c o hc e=>hs₁.extBut c o hc e
 have a1:It1 k h₁:=F1.keep _ _ _ h1 fun b hb o e=>kp1 b o (by rcases hb with rfl | rfl; exact D.i1z; exact D.l1z) e
 have b1:It2 k h₁:=F2.keep _ _ _ h2 fun b hb o e=>kp1 b o (by rcases hb with rfl | rfl; exact D.i2z; exact D.l2z) e
 refine wpAny_bind (wpAny_bind (wpAny_onRaise ?_))
 show wpAny _ _ (Builtin.SmallTypes.nextOf (.ref i1)>>=_) _ _ _
 refine wpAny_bind (F1.item _ {s with heap:=h₁} k x _ _ a1 hx fun h₂ a2 hs₂=>wpAny_pure ?_)
 have hTO₂:IsPair h₂ TO a b:=hs₂.extBut _ _ D.TOi1 (kp1 _ _ D.TOz hTO)
 refine wpAny_bind (wpAny_seqItems hTO₂ rfl ?_)
 refine wpAny_bind (wpAny_updateSeq_pair hTO₂ fun h₃ hTO₃ hs₃=>?_)
 replace hTO₃:IsPair h₃ TO x b:=hTO₃
 refine wpAny_bind (wpAny_letGo (wpAny_pure ?_))
 have b3:It2 k h₃:=F2.keep _ _ _ b1 fun c hc o e=>hs₃.extBut c o (by rcases hc with rfl | rfl; exact D.TOi2.symm; exact D.l2TO) (hs₂.extBut c o (by rcases hc with rfl | rfl; exact D.i12.symm; exact D.l2i1) e)
 have a3:It1 (k+1) h₃:=F1.keep _ _ _ a2 fun c hc o e=>hs₃.extBut c o (by rcases hc with rfl | rfl; exact D.TOi1.symm; exact D.l1TO) e
 refine wpAny_bind (wpAny_bind (wpAny_onRaise ?_))
 show wpAny _ _ (Builtin.SmallTypes.nextOf (.ref i2)>>=_) _ _ _
 refine wpAny_bind (F2.item _ {s with heap:=h₃} k y _ _ b3 hy fun h₄ b4 hs₄=>wpAny_pure ?_)
 have hTO₄:IsPair h₄ TO x b:=hs₄.extBut _ _ D.TOi2 hTO₃
 refine wpAny_bind (wpAny_seqItems hTO₄ rfl ?_)
 refine wpAny_bind (wpAny_updateSeq_pair hTO₄ fun h₅ hTO₅ hs₅=>?_)
 replace hTO₅:IsPair h₅ TO x y:=hTO₅
 refine wpAny_bind (wpAny_letGo (wpAny_pure (wpAny_pure ?_)))
 refine wpAny_bind (wpAny_seqItems hTO₅ rfl ?_)
 refine wpAny_bind (wpAny_newTuple ?_)
 have hsz:h₅.objs.size=s.heap.objs.size:=by rw [hs₅.1,hs₄.1,hs₃.1,hs₂.1,hs₁.1]
 have hz₅:ZAt h₅ z TI TO .ellipsis false:=hs₅.extBut _ _ D.TOz.symm (hs₄.extBut _ _ D.i2z.symm (hs₃.extBut _ _ D.TOz.symm (hs₂.extBut _ _ D.i1z.symm hz₁)))
 have hk₅:∀ c o,c≠z→c≠TO→c≠i1→c≠i2→s.heap.get? c=some o→h₅.get? c=some o:=fun c o c1 c2 c3 c4 e=>
  hs₅.extBut _ _ c2 (hs₄.extBut _ _ c4 (hs₃.extBut _ _ c2 (hs₂.extBut _ _ c3 (kp1 _ _ c1 e))))
 have a5:It1 (k+1) h₅:=F1.keep _ _ _ a3 fun c hc o e=>hs₅.extBut c o (by rcases hc with rfl | rfl; exact D.TOi1.symm; exact D.l1TO) (hs₄.extBut c o (by rcases hc with rfl | rfl; exact D.i12; exact D.l1i2) e)
 have b5:It2 (k+1) h₅:=F2.keep _ _ _ b4 fun c hc o e=>hs₅.extBut c o (by rcases hc with rfl | rfl; exact D.TOi2.symm; exact D.l2TO) e
 show wpAny _ _ (Builtin.SmallTypes.ownedTupleHandOut (.ref z) (.ref h₅.objs.size)>>=_) _ _ _
 refine wpAny_bind ?_
 unfold Builtin.SmallTypes.ownedTupleHandOut
 have hz₆:ZAt (h₅.push {cls:=.type "tuple",data:=.seq #[x,y]}) z TI TO .ellipsis false:=Heap.get?_push_of_some _ hz₅
 refine wpAny_bind (wpAny_setField_rec hz₆ (by simp) fun h₇ hz₇ hs₇=>?_)
 replace hz₇:ZAt h₇ z TI TO (rawInt h₅.objs.size) false:=hz₇
 refine wpAny_setField_rec hz₇ (by simp) fun h₈ hz₈ hs₈=>?_
 replace hz₈:ZAt h₈ z TI TO (rawInt h₅.objs.size) false:=hz₈
 have up:∀ c o,c≠z→h₅.get? c=some o→h₈.get? c=some o:=fun c o c1 e=>hs₈.extBut _ _ c1 (hs₇.extBut _ _ c1 (Heap.get?_push_of_some _ e))
 have hT₈:IsPair h₈ h₅.objs.size x y:=hs₈.extBut _ _ (by rw [hsz]; exact Nat.ne_of_gt hzl) (hs₇.extBut _ _ (by rw [hsz]; exact Nat.ne_of_gt hzl) (Heap.get?_push_size _ rfl))
 rw [hsz] at hz₈ hT₈
 refine wpAny_pure ⟨_,rfl,?_⟩
 show wpAny _ _ (pure (some (Value.ref h₅.objs.size))) _ _ _
 rw [hsz]
 refine wpAny_pure (hQ h₈ hz₈ (up _ _ D.TIz (hk₅ _ _ D.TIz D.TITO D.TIi1 D.TIi2 hTI)) ⟨_,_,up _ _ D.TOz hTO₅⟩ (F1.keep _ _ _ a5 fun c hc o e=>up c o (by rcases hc with rfl | rfl; exact D.i1z; exact D.l1z) e) (F2.keep _ _ _ b5 fun c hc o e=>up c o (by rcases hc with rfl | rfl; exact D.i2z; exact D.l2z) e) hT₈ fun c o c1 c2 c3 c4 e=>up c o c1 (hk₅ c o c1 c2 c3 c4 e))
end
def Itz (K:PySem.W.Frag) (a b:Addr):It:=
  ⟨fun i H=>∃ xs ys x y,SqL K H a xs∧SqT K H b ys∧xs[i]? = some x∧ys[i]? = some y,fun i H v H'=>∃ p x y,H p=none∧v=.ref p∧H'=upd H p (.tup [x,y])∧(∀ xs,SqL K H a xs→xs[i]? = some x)∧∀ ys,SqT K H b ys→ys[i]? = some y,
   fun i H=>∃ xs ys,SqL K H a xs∧SqT K H b ys∧xs.length≤i⟩
def Ztn (z TI TO i1 i2 l1 l2:Addr) (i:Nat) (h:Heap):Prop:=ZAt h z TI TO .none false∧IsPair h TI (.ref i1) (.ref i2)∧(∃ a b,IsPair h TO a b)∧h.IsListIter i1 l1 i∧h.IsTupleIter i2 l2 i
theorem turn_zip {P:Program} {w:World} {K:PySem.W.Frag} {elts:List Expr} {k:Nat} {tpos:Pos} {z TI TO i1 i2 l1 l2:Addr} (D:ZipApart z TI TO i1 i2 l1 l2):Turn P w K (.Tuple elts k tpos) (Itz K l1 l2) [z,TI,TO,i1,i2] z (Ztn z TI TO i1 i2 l1 l2) where
 mem:=by simp
 obj:=fun i h st b hb=>by
  obtain⟨hz,hTI,⟨a,c,hTO⟩,⟨o1,e1,_,d1⟩,⟨o2,e2,_,d2⟩⟩:=st
  simp only [List.mem_cons,List.not_mem_nil,or_false] at hb
  rcases hb with rfl | rfl | rfl | rfl | rfl
  ·exact⟨_,hz,fun v z=>by cases z⟩
  ·exact⟨_,hTI,fun v z=>by cases z⟩
  ·exact⟨_,hTO,fun v z=>by cases z⟩
  ·exact⟨o1,e1,fun v z=>by rw [d1] at z; cases z⟩
  ·exact⟨o2,e2,fun v z=>by rw [d2] at z; cases z⟩
 keep:=fun i h h' st k=>by
  obtain⟨hz,hTI,⟨a,c,hTO⟩,⟨o1,e1,r1⟩,⟨o2,e2,r2⟩⟩:=st
  exact⟨k z (by simp) _ hz,k TI (by simp) _ hTI,⟨a,c,k TO (by simp) _ hTO⟩,⟨o1,k i1 (by simp) _ e1,r1⟩,⟨o2,k i2 (by simp) _ e2,r2⟩⟩
 item:=by
  intro X hP hw hK hc i pins s σ H E I hf st hg
  subst hP hw hK
  obtain⟨xs,ys,x,y,hq,hq2,hx,hy⟩:=hg
  obtain⟨its,rv,pl,hz1⟩:=I.list hq
  obtain⟨u,hu,ru⟩:=rv.get hx
  obtain⟨jts,rv2,pl2,hz2⟩:=I.tuple hq2
  obtain⟨u2,hu2,ru2⟩:=rv2.get hy
  obtain⟨hz,hTI,⟨a,c,hTO⟩,h1,h2⟩:=st
  have F1:=feed_list (P:=X.prog) (w:=X.w) i1 l1 its.toArray D.l1i1
  have F2:=feed_tup (P:=X.prog) (w:=X.w) i2 l2 jts.toArray D.l2i2
  refine z_itemN (fun k h z=>by obtain⟨⟨o,e,_⟩,_⟩:=z; exact Heap.lt_size e) (fun k h z=>by obtain⟨⟨o,e,_⟩,_⟩:=z; exact Heap.lt_size e) D F1 F2 hz hTI hTO ⟨h1,pl.isList⟩ ⟨h2,pl2⟩ (by simpa using hu) (by simpa using hu2) fun h' hz' hTI' hTO' a' b' hT hk=>⟨_,rfl,?_⟩
  refine wpAny_letOwnedTupleGo_zip (s:={s with heap:=h'}) (TI:=TI) (TO:=TO) hz' fun h3 hz3 sb3=>?_
  have k3:∀ b o,b∉[z,TI,TO,i1,i2]→s.heap.get? b=some o→h3.get? b=some o:=fun b o nb q=>(sb3.2 b (fun e=>nb (by simp [e]))).trans (hk b o (fun e=>nb (by simp [e])) (fun e=>nb (by simp [e])) (fun e=>nb (by simp [e])) (fun e=>nb (by simp [e])) q)
  have lo:∀ b∈[z,TI,TO,i1,i2],Loose X pins H b:=fun b hb=>(hf b hb).loose
  have nF:∀ b∈[z,TI,TO,i1,i2],b∉frs X.stack:=fun b hb e=>by
   obtain⟨_,f1,f2,_⟩:=hf b hb
   exact(List.mem_cons.mp (I.stkSub b e)).elim f1 f2
  have I3:Inv X pins σ H {s with heap:=h3,toks:=s.toks}:=I.fly (t':=s.toks) lo (fun b o q n _=>k3 b o n q) fun b o q hb=>⟨o.slots,k3 b o (fun e=>nF b e hb) q⟩
  have hn:H s.heap.objs.size=none:=I.hok.fresh (Nat.le_refl _)
  have lt5:∀ b∈[z,TI,TO,i1,i2],b≠s.heap.objs.size:=fun b hb=>by
   simp only [List.mem_cons,List.not_mem_nil,or_false] at hb
   rcases hb with rfl | rfl | rfl | rfl | rfl
   ·exact Nat.ne_of_lt (Heap.lt_size hz)
   ·exact Nat.ne_of_lt (Heap.lt_size hTI)
   ·exact Nat.ne_of_lt (Heap.lt_size hTO)
   ·obtain⟨_,e1,_⟩:=h1; exact Nat.ne_of_lt (Heap.lt_size e1)
   ·obtain⟨_,e1,_⟩:=h2; exact Nat.ne_of_lt (Heap.lt_size e1)
  have hT3:h3.get? s.heap.objs.size=some {cls:=.type "tuple",data:=.seq #[u,u2]}:=(sb3.2 _ (Ne.symm (lt5 z (by simp)))).trans hT
  have lT:Loose X pins H s.heap.objs.size:=I.loose (Heap.get?_none_of_le (Nat.le_refl _))
  have hok:ObjOk X.prog X.w (upd H s.heap.objs.size (.tup [x,y])) h3 s.heap.objs.size (.tup [x,y]):=⟨(by show 2≤sizeLine; decide),[u,u2],.cons ru (.cons ru2 .nil),⟨_,hT3,rfl,0,rfl⟩⟩
  have up:∀ b o,b≠z→h'.get? b=some o→h3.get? b=some o:=fun b o n e=>(sb3.2 b n).trans e
  obtain⟨a3,c3,hTO3⟩:=hTO'
  obtain⟨o1,e1,r1⟩:=a'.1
  obtain⟨o2,e2,r2⟩:=b'.1
  refine⟨.ref s.heap.objs.size,upd H s.heap.objs.size (.tup [x,y]),I3.trackO lT hok,rfl,⟨_,x,y,hn,rfl,rfl,fun zs hs=>by rw [I.list_inj hs hq]; exact hx,fun zs hs=>by rw [I.tuple_inj hs hq2]; exact hy⟩,⟨hz3,up _ _ D.TIz hTI',⟨a3,c3,up _ _ D.TOz hTO3⟩,⟨o1,up _ _ D.i1z e1,r1⟩,⟨o2,up _ _ D.i2z e2,r2⟩⟩,fun b hb=>?_⟩
  rw [upd_ne (lt5 b hb)]; exact(hf b hb).1
 done:=by
  intro X hP hw hK hc i pins s σ H E I hf st hg
  subst hP hw hK
  obtain⟨xs,ys,hq,hq2,hx⟩:=hg
  obtain⟨its,rv,pl,hz1⟩:=I.list hq
  obtain⟨jts,rv2,pl2,hz2⟩:=I.tuple hq2
  obtain⟨hz,hTI,hTO,h1,h2⟩:=st
  have hl:=rv.length
  have F1:=feed_list (P:=X.prog) (w:=X.w) i1 l1 its.toArray D.l1i1
  refine z_end (It1:=fun k h=>h.IsListIter i1 l1 k∧h.IsList l1 its.toArray) (It2:=fun k h=>h.IsTupleIter i2 l2 k∧h.IsTuple l2 jts.toArray) (I.ok.hd hc) D F1 ⟨⟨_,_,hz,.inl rfl⟩,hTI,hTO,⟨h1,pl.isList⟩,⟨h2,pl2⟩⟩ (by simp; omega) fun h' hk=>⟨rfl,?_⟩
  have lo:∀ b∈[z,TI,TO,i1,i2],Loose X pins H b:=fun b hb=>(hf b hb).loose
  have nF:∀ b∈[z,TI,TO,i1,i2],b∉frs X.stack:=fun b hb e=>by
   obtain⟨_,f1,f2,_⟩:=hf b hb
   exact(List.mem_cons.mp (I.stkSub b e)).elim f1 f2
  have k3:∀ b o,b∉[z,TI,TO,i1,i2]→s.heap.get? b=some o→h'.get? b=some o:=fun b o nb q=>hk b o (fun e=>nb (by simp [e])) (fun e=>nb (by simp [e])) (fun e=>nb (by simp [e])) (fun e=>nb (by simp [e])) q
  exact I.fly (t':=s.toks) lo (fun b o q n _=>k3 b o n q) fun b o q hb=>⟨o.slots,k3 b o (fun e=>nF b e hb) q⟩
 self:=fun _ _ _ _ _ st h=>wpAny_pyIter_zip st.1 h
section
variable {X:Cx} {elts:List Expr} {k:Nat} {tpos:Pos}
def iZip (K:PySem.W.Frag) (ta:TA):TI:=fun σ H R=>ta σ H fun vs H1=>∃ a b xs ys,vs=[.ref a,.ref b]∧SqL K H1 a xs∧SqT K H1 b ys∧R (Itz K a b) H1
theorem pi_zip {e1 e2:Expr} {ta:TA} {p pos:Pos} (hg:Gl X "zip") (hm:X.mg "zip"=none) (ha:PA X [e1,e2] ta) (hs:starEach [e1,e2] X.env=(false,eval e1 X.env)::starEach [e2] X.env:=by rfl) (hpl:(backTo pos (starEach [e2] X.env)).any (·.1)=false:=by rfl) :
  PI X (.Tuple elts k tpos) (.Call (.Name "zip" p) [e1,e2] [] pos) (iZip X.K ta):=by
 intro pins s σ H R I h
 refine Call_ (ld_blt I hg hm bt_zip (PyProof.Rows.callWith_type1 (thn (ha pos pins s σ H _ I h) fun us s1 ⟨vs,H1,I1,r1,q1⟩=>?_) hs hpl))
 obtain⟨a,b,xs,ys,e,hq,hq2,q⟩:=q1
 subst e
 obtain⟨u,v,rfl,ru,rv⟩:=vals2 r1
 cases ru
 cases rv
 obtain⟨its,r',pl,hz⟩:=I1.list hq
 obtain⟨jts,r2,pl2,hz2⟩:=I1.tuple hq2
 have hal:a<s1.heap.objs.size:=by obtain⟨o,ho,_⟩:=pl.isList; exact Heap.lt_size ho
 have hbl:b<s1.heap.objs.size:=by obtain⟨o,ho,_⟩:=pl2; exact Heap.lt_size ho
 refine call_zipT pl.isList pl2 fun h' hZ hTI hTO hI1 hI2 hk=>?_
 refine wpAny_pyIter_zip hZ ?_
 refine⟨s1.heap.objs.size+4,[s1.heap.objs.size+4,s1.heap.objs.size+2,s1.heap.objs.size+3,s1.heap.objs.size,s1.heap.objs.size+1],_,_,H1,rfl,I1.kept (t':=s1.toks) hk,turn_zip (zipApart_new hal hbl),⟨hZ,hTI,⟨_,_,hTO⟩,hI1,hI2⟩,fun c hc=>?_,q⟩
 have hc':s1.heap.objs.size≤c:=by
  simp only [List.mem_cons,List.not_mem_nil,or_false] at hc
  rcases hc with rfl | rfl | rfl | rfl | rfl
  ·exact Nat.le_add_right _ 4
  ·exact Nat.le_add_right _ 2
  ·exact Nat.le_add_right _ 3
  ·exact Nat.le_refl _
  ·exact Nat.le_add_right _ 1
 exact I1.fpOk hc' (I1.hok.fresh hc')
end
section
variable {X:Cx} {pins:List (Addr×Obj)} {σ:St} {H:Hp} {s:Shared}
theorem store_okT {M:Model} {A:Around} {E:Value→Shared→Prop} {i:Nat} {x:Str} {v:V} {u:Value} {Q:Unit→Shared→Prop} (I:Inv X pins σ H s) (hN:X.N.Nodup) (hi:X.N[i]? = some x) (hk:X.env.scope.names.lookup x=some .local) (r:RelV v u)
  (h:∀ s',Inv X pins (σ.set i (some v)) H s'→0<s'.toks→Q () s'):wpAny M A (storeName X.env x u) Q E s:=by
 obtain⟨m,hn,hl⟩:=id I.loc
 have hcls:(X.env.scope.kind==.class||(X.env.scope.kind==.module&&X.env.locals != X.env.globals))=false:=by rw [I.ok.kind]; rfl
 have hiσ:i<σ.length:=by rw [I.len]; exact(List.getElem?_eq_some_iff.mp hi).1
 have cne:=I.cne
 have tracked:∀ {a:Addr} {h':Heap},(∃ o,s.heap.get? a=some o∧H a=none)→Heap.SameBut a s.heap h'→HOk X.prog X.w H h':=fun {a h'} ha hs b ob e=>by
  obtain⟨_,_,hfree⟩:=ha
  refine(I.hok b ob e).stay (fun c w' hc q=>(hs.2 c ?_).trans q) (fun _ q=>q) fun _ _ q=>q
  rintro rfl
  rcases hc with rfl | hc
  ·rw [hfree] at e; cases e
  ·rw [hfree] at hc; cases hc
 refine wpAny_storeName_local hk hn (fun h' hn' hs=>?_) hcls
 obtain⟨oL,_,_,hoL,_⟩:=id hn
 refine h _ ⟨I.ok,I.os,I.bare,⟨fun b o e n hb hx=>?_,fun b o e n hb hx=>?_,I.base.free,fun b o e hx=>?_,I.base.tups,I.base.frzs,I.base.tbls⟩,⟨_,hn',fun j y v' e1 e2 e3=>?_⟩,fun y c e=>?_,I.free,I.freeC,fun p hp=>?_,tracked ⟨oL,hoL,I.free⟩ hs,by simpa using I.len⟩ (Nat.succ_pos _)
 ·exact(hs.2 b (Nat.ne_of_lt (Nat.lt_of_lt_of_le (Heap.lt_size e) I.ok.above))).trans (I.base.keep b o e n hb hx)
 ·obtain⟨sl,e1⟩:=I.base.slot b o e n hb hx
  exact⟨sl,(hs.2 b (Nat.ne_of_lt (Nat.lt_of_lt_of_le (Heap.lt_size e) I.ok.above))).trans e1⟩
 ·obtain⟨o',e1⟩:=I.base.there b o e hx
  exact⟨o',(hs.2 b (Nat.ne_of_lt (Nat.lt_of_lt_of_le (Heap.lt_size e) I.ok.above))).trans e1⟩
 ·by_cases hj:j=i
  ·subst hj
   rw [hi] at e1; cases e1
   rw [List.getElem?_set_self hiσ] at e2
   cases e2
   exact⟨u,r,.inl ⟨hk,by simp⟩⟩
  ·rw [List.getElem?_set_ne (Ne.symm hj)] at e2
   obtain⟨u',r',q⟩:=hl j y v' e1 e2 e3
   refine⟨u',r',?_⟩
   rcases q with ⟨k,e⟩ | ⟨k,c,e,z⟩
   ·refine .inl ⟨k,?_⟩
    have : y≠x:=fun e=>hj (nodup_ix hN e1 (e▸hi))
    simp [this,e]
   ·exact .inr ⟨k,c,e,z.sameBut hs (cne y c e)⟩
 ·obtain⟨w',z⟩:=I.cell y c e
  exact⟨w',z.sameBut hs (cne y c e)⟩
 ·obtain⟨e,n,ne,nf,d⟩:=I.pin p hp
  exact⟨(hs.2 p.1 ne).trans e,n,ne,nf,d⟩
end
def PST (X:Cx) (st:Stmt) (t:TS):Prop:=
 ∀ (pins:List (Addr×Obj)) (s:Shared) (σ:St) (H:Hp) (D:Ends),0<s.toks→Inv X pins σ H s→t D σ H→wpAny (model X.prog X.w) X.A (exec st X.env) (SP X pins D) X.xe s
def PSsT (X:Cx) (st:List Stmt) (t:TS):Prop:=
 ∀ (pins:List (Addr×Obj)) (s:Shared) (σ:St) (H:Hp) (D:Ends),0<s.toks→Inv X pins σ H s→t D σ H→wpAny (model X.prog X.w) X.A (execs st X.env) (SP X pins D) X.xe s
def PIT (X:Cx) (tg iter:Expr) (wi:TI):Prop:=
 ∀ (pins:List (Addr×Obj)) (s:Shared) (σ:St) (H:Hp) (R:It→Hp→Prop),0<s.toks→Inv X pins σ H s→wi σ H R→
  wpAny (model X.prog X.w) X.A (eval iter X.env) (fun v s1=>wpAny (model X.prog X.w) X.A (pyIter v) (PIE X pins σ tg R) X.xe s1) X.xe s
def PET (X:Cx) (e:Expr) (t:TE):Prop:=
 ∀ (pins:List (Addr×Obj)) (s:Shared) (σ:St) (H:Hp) (Q:VK),0<s.toks→Inv X pins σ H s→t σ H Q→wpAny (model X.prog X.w) X.A (eval e X.env) (fun u s'=>EP X pins σ Q u s'∧0<s'.toks) X.xe s
section
variable {X:Cx} {tg:Expr}
theorem ps_forT {iter:Expr} {body:List Stmt} {wi:TI} {g:TG} {tb:TS} {pos:Pos} (hp:PassesOwn (model X.prog X.w) X.A X.env X.xe) (hc:X.calm=true) (hi:PIT X tg iter wi) (hg:PG X tg g) (hb:PSs X body tb)
  (hs:∀ x,foldedSetIterable iter X.env x=pure x:=by intro _; rfl):PST X (.For tg iter body [] pos) (tFor wi g tb):=by
 intro pins s σ H D ht I h
 refine wpAny_For (thn (hi pins s σ H _ ht I h) fun v s1 h1=>thn h1 fun itv s2 h2=>?_) hs
 obtain⟨it,fp,tn,J,H2,e,I2,T,st2,f2,W,⟨m0,w0⟩,turn⟩:=h2
 subst e
 have stat:∀ {H':Hp},(∀ b∈fp,H' b=none)→∀ b∈fp,FpOk X pins H' b:=fun hn b hb=>⟨hn b hb,(f2 b hb).2⟩
 refine codeAny_forLoop_any (fun n s'=>∃ i σ' H',Inv X pins σ' H' s'∧tn i s'.heap∧(∀ b∈fp,H' b=none)∧W i n σ' H') ?_ m0 ⟨0,σ,H2,I2,st2,fun b hb=>(f2 b hb).1,w0⟩
 rintro n s3 ⟨i,σ3,H3,I3,st3,fr3,w3⟩
 rcases turn i n σ3 H3 w3 with ⟨stop,qn⟩ | ⟨go,N,hN,step⟩
 ·refine wpAny_passesOwn hp (thn (T.done X rfl rfl rfl hc i pins s3 σ3 H3 X.xe I3 (stat fr3) st3 stop) fun r s4 ⟨hr,I4⟩=>?_)
  subst hr
  exact wpAny_execs_nil ⟨σ3,H3,I4,qn⟩
 ·refine wpAny_passesOwn hp (thn (T.item X rfl rfl rfl hc i pins s3 σ3 H3 X.xe I3 (stat fr3) st3 go) fun r s4 ⟨u,hr,h4⟩=>?_)
  subst hr
  refine wpAny_passesOwn hp (thn h4 fun _ s5 ⟨x,H5,I5,r5,y5,st5,fr5⟩=>?_)
  have I5':=I5.pinned (stat fr5) (T.obj _ _ st5)
  refine wpAny_passesOwn hp (thn (hg _ s5 σ3 H5 x u _ I5' r5 (step x H5 y5)) fun _ s6 ⟨σ6,H6,I6,q6⟩=>?_)
  refine wpAny_passesOwn hp (thn (hb _ s6 σ6 H6 _ I6 q6) fun f s7 q7=>?_)
  have again:∀ {σ7:St} {H7:Hp},Inv X (pins++pinsAt fp s5.heap) σ7 H7 s7→N σ7 H7→∃ m,m<n∧∃ i σ' H',Inv X pins σ' H' s7∧tn i s7.heap∧(∀ b∈fp,H' b=none)∧W i m σ' H':=fun {σ7 H7} I7 n7=>by
   obtain⟨m',hm,w7⟩:=hN σ7 H7 n7
   refine⟨m',hm,i+1,σ7,H7,I7.unpinned,T.keep _ _ _ st5 fun b hb o e=>(I7.pin (b,o) (List.mem_append_right _ (List.mem_append_right _ (mem_pinsAt hb e)))).1,fun b hb=>?_,w7⟩
   obtain⟨o,e,d⟩:=T.obj _ _ st5 b hb
   exact(I7.pin (b,o) (List.mem_append_right _ (List.mem_append_right _ (mem_pinsAt hb e)))).2.1
  cases f with
  | next=>obtain⟨σ7,H7,I7,n7⟩:=q7; exact again I7 n7
  | cont=>obtain⟨σ7,H7,I7,n7⟩:=q7; exact again I7 n7
  | brk=>obtain⟨σ7,H7,I7,q7⟩:=q7; exact⟨σ7,H7,I7.unpinned,q7⟩
  | ret v=>obtain⟨x7,σ7,H7,I7,r7,q7⟩:=q7; exact⟨x7,σ7,H7,I7.unpinned,r7,q7⟩
end
end L2
namespace L2
open PySem PySem.Spec PyProof.Rows PySem.Builtin.Str
section
variable {P:Program} {w:World} {A:Around} {E:Value→Shared→Prop} {s:Shared}
theorem replaceT {x y z:Str} {t u v:Tok} {Q:Value→Shared→Prop} (hu:u≠0) (hv:v≠0) (huv:u≠v) (hyz:(y==z)=false) (hb:x.length+(x.length+1)*z.length≤16777216)
  (hq:∀ t' k,s.toks≤k→Q (.str (Txt.replace x y z) t') {s with toks:=k}):wpAny (model P w) A (call (.builtin "str.replace") [.str x t,.str y u,.str z v]) Q E s:=by
 have occ:=StrLaws.occ_length_le x y 0 x.length (x.length+1)
 have hl:tooLong (x.length+(occurrences x y 0 x.length (x.length+1)).length*z.length)=false:=by
  have h2:=Nat.mul_le_mul_right z.length occ
  have e:(2:Nat) ^ 24=16777216:=by decide
  unfold tooLong sizeLine
  exact decide_eq_false (by omega)
 refine call_gives F.slot_str_replace (typeIs_str _ _ _) F.entry_str_replace (F.args_str_replace_3 _ _ _) (gives_str_replace x y z t u v fun _=>⟨by simp [hu,hv],by simp [huv],hyz,hl⟩) ?_
 unfold Txt.replace at hq
 split
 ·rename_i h
  rw [if_pos h] at hq
  exact hq t s.toks (Nat.le_refl _)
 ·rename_i h
  rw [if_neg h] at hq
  exact⟨fits_replaced y hb,hq _ _ (Nat.le_succ _)⟩
end
section
variable {X:Cx}
theorem pet_var {i:Nat} {x:Str} {pos:Pos} (hN:X.N[i]? = some x) (hk:X.env.scope.names.lookup x=some .local) (hd:(x==("__debug__":Str))=false):PET X (.Name x pos) (tVar i):=by
 intro pins s σ H Q ht I h
 obtain⟨v,e,h⟩:=h
 obtain⟨m,hn,hl⟩:=I.loc
 obtain⟨u,r,l⟩:=hl i x v hN e (.inl hk)
 rcases l with ⟨hk',hm⟩ | ⟨hk',c,hc,hcell⟩
 ·exact wpAny_Name (wpAny_loadName_local I.ok.kind hk' hn hm ⟨⟨v,H,I,r,h⟩,ht⟩) hd
 ·have hk2:X.env.kindOf x=some .local:=hk
  rcases hk' with z | z <;> (rw [z] at hk2; cases hk2)
def tRepl (a b:Str) (to:TE):TE:=fun σ H Q=>to σ H fun x H1=>∃ z:Str,x=.str z∧z.length+(z.length+1)*b.length≤16777216∧(a==b)=false∧Q (.str (Txt.replace z a b)) H1
theorem pet_replace {o:Expr} {to:TE} {a b:Str} {ja jb:Nat} {pa pb apos cpos:Pos} (ho:PET X o to)
  (hbase:attributeBase o "replace" X.env (eval o X.env)=eval o X.env:=by rfl)
  (hline:(apos.endLine==cpos.line)=true:=by rfl) :
  PET X (.Call (.Attribute o "replace" apos) [.Constant (.str a) ja pa,.Constant (.str b) jb pb] [] cpos) (tRepl a b to):=by
 intro pins s σ H Q ht I h
 refine wpAny_Call_method_late hbase (by rfl) hline rfl (thn (ho pins s σ H _ ht I h) fun v s1 ⟨⟨x,H1,I1,r1,z,ez,hb,hab,q1⟩,ht1⟩=>?_)
 subst ez
 obtain⟨t,rfl⟩:=r1
 refine⟨"str","str.replace",F.plainAttrs_str,F.slot_str_replace,F.type_str_replace,typeIs_str _ _ _,(fun _ e=>nomatch e),?_⟩
 have hst:starEach [.Constant (.str a) ja pa,.Constant (.str b) jb pb] X.env=[(false,eval (.Constant (.str a) ja pa) X.env),(false,eval (.Constant (.str b) jb pb) X.env)]:=by rfl
 rw [hst]
 refine Calls.callWith_builtin (by rfl) (Calls.evalArgs_plain ?_)
 show wpAny _ _ (spliced [(false,eval (.Constant (.str a) ja pa) X.env),(false,eval (.Constant (.str b) jb pb) X.env)]) _ _ _
 refine Calls.spliced_cons (wpAny_Constant_str (Calls.spliced_cons (wpAny_Constant_str (Calls.spliced_nil ?_))))
 refine replaceT (s:={s1 with toks:=s1.toks+1+1}) (Nat.pos_iff_ne_zero.mp ht1) (Nat.succ_ne_zero _) (Nat.ne_of_lt (Nat.lt_succ_self _)) hab hb fun t' k hk=>⟨⟨.str (Txt.replace z a b),H1,I1.tok k,⟨t',rfl⟩,q1⟩,?_⟩
 exact Nat.lt_of_lt_of_le (Nat.succ_pos _) hk
def iSplit (K:PySem.W.Frag) (c:Str) (to:TE):TI:=fun σ H R=>to σ H fun x H1=>∃ z:Str,x=.str z∧(c.length==0)=false∧z.length<sizeLine∧(Txt.split z c).length≤sizeLine∧∀ l,H1 l=none→R (Itl K l) (upd H1 l (.lst ((Txt.split z c).map V.str)))
theorem pss_setT {i:Nat} {x:Str} {e:Expr} {te:TE} {pos pos':Pos} {rest:List Stmt} {t:TS} (hN:X.N.Nodup) (hi:X.N[i]? = some x) (hk:X.env.scope.names.lookup x=some .local) (he:PE X e te) (hr:PSsT X rest t) (hs:swapsWith e (some (.Name x pos')) pos.line X.env=pure false:=by rfl) :
  PSs X (.Assign [.Name x pos'] e pos::rest) (tSeq (tAsg te (gName i)) t):=by
 intro pins s σ H D I h
 refine wpAny_execs_cons ?_
 refine wpAny_Assign_Name (thn (he pins s σ H _ I h) fun v s1 ⟨y,H1,I1,r1,q1⟩=>?_) hs
 exact store_okT I1 hN hi hk r1 fun s2 I2 ht2=>hr pins s2 _ H1 D ht2 I2 q1
theorem pss_consT {st:Stmt} {rest:List Stmt} {t u:TS} (h1:PST X st t) (h2:PSs X rest u):PSsT X (st::rest) (tSeq t u):=by
 intro pins s σ H D ht I h
 refine wpAny_execs_cons (thn (h1 pins s σ H {D with nx:=u D} ht I h) fun f s1 q=>?_)
 cases f with
 | next=>
  obtain⟨σ',H',I',q⟩:=q
  exact h2 pins s1 σ' H' D I' q
 | ret v=>exact q
 | brk=>exact q
 | cont=>exact q
theorem pit_split {tg o:Expr} {to:TE} {c:Str} {jc:Nat} {pc apos cpos:Pos} (ho:PET X o to)
  (hbase:attributeBase o "split" X.env (eval o X.env)=eval o X.env:=by rfl) (hline:(apos.endLine==cpos.line)=true:=by rfl) :
  PIT X tg (.Call (.Attribute o "split" apos) [.Constant (.str c) jc pc] [] cpos) (iSplit X.K c to):=by
 intro pins s σ H R ht I h
 refine wpAny_Call_method_late hbase (by rfl) hline rfl (thn (ho pins s σ H _ ht I h) fun v s1 ⟨⟨x,H1,I1,r1,z,ez,hc,hz,hn,q1⟩,ht1⟩=>?_)
 subst ez
 obtain⟨t,rfl⟩:=r1
 refine⟨"str","str.split",F.plainAttrs_str,F.slot_str_split,F.type_str_split,typeIs_str _ _ _,(fun _ e=>nomatch e),?_⟩
 have hst:starEach [.Constant (.str c) jc pc] X.env=[(false,eval (.Constant (.str c) jc pc) X.env)]:=by rfl
 rw [hst]
 refine Calls.callWith_builtin (by rfl) (Calls.evalArgs_plain ?_)
 show wpAny _ _ (spliced [(false,eval (.Constant (.str c) jc pc) X.env)]) _ _ _
 refine Calls.spliced_cons (wpAny_Constant_str (Calls.spliced_nil ?_))
 refine thn (mt_split (X:=X) pins {s1 with toks:=s1.toks+1} σ H1 (.str z) [.str c] (.str z t) [.str c s1.toks] (fun x H2=>∃ a,x=.ref a∧(∃ xs,SqL X.K H2 a xs)∧R (Itl X.K a) H2) (I1.tok _) ⟨t,rfl⟩ (.cons ⟨_,rfl⟩ .nil) ⟨z,c,rfl,rfl,hc,hz,hn,fun l hl=>⟨l,rfl,⟨_,SqL.of upd_same⟩,q1 l hl⟩⟩) fun v s2 ⟨x,H2,I2,r2,q2⟩=>?_
 obtain⟨a,e,⟨xs,hq⟩,q⟩:=q2
 subst e
 cases r2
 obtain⟨its,rv,p,hz'⟩:=I2.list hq
 refine wpAny_pyIter_list p.isList ?_
 refine⟨s2.heap.objs.size,[s2.heap.objs.size],_,_,H2,rfl,I2.kept (t':=s2.toks) fun b o e=>Heap.get?_push_of_some _ e,turn_list a _,⟨_,Heap.get?_push_size _ rfl,rfl,rfl⟩,fun b hb=>?_,q⟩
 have e:b=s2.heap.objs.size:=by simpa using hb
 subst e
 exact I2.fpOk (Nat.le_refl _) (I2.hok.fresh (Nat.le_refl _))
end
end L2
set_option maxHeartbeats 4000000
namespace L2
open PySem PySem.Spec PyProof.Rows
theorem Draws_tup {prog:Program} {w:World} {A:Around} (hh:A.handled=none) (it l:Addr) (hne:l≠it) (items:Array Value) :
  Draws prog w A it [it,l] items.size (fun i v=>items[i]? = some v) (fun i h=>h.IsTupleIter it l i∧h.IsTuple l items) where
 live:=fun _ _ st=>let ⟨o,ho,_⟩:=st.1; ⟨o,ho⟩
 frame:=fun i h h' st hk=>(feed_tup (P:=prog) (w:=w) it l items hne).keep h h' i st fun b hb o e=>hk b (by simpa using hb) o e
 item:=fun i s Q E hi st hQ=>by
  refine(feed_tup (P:=prog) (w:=w) it l items hne).item _ s i items[i] _ _ st (by simp [hi]) fun h' hit' hs'=>?_
  exact hQ _ h' s.toks (by simp [hi]) hit' hs'
 done:=fun s Q E st hE=>(feed_tup (P:=prog) (w:=w) it l items hne).fin _ s _ _ _ hh st (by simp) hE
theorem Draws_tupEnd {prog:Program} {w:World} {A:Around} (hh:A.handled=none) (it l:Addr) (hne:l≠it) (items:Array Value) (n:Nat) (hn:items[n]? = none) :
  Draws prog w A it [it,l] n (fun _ _=>False) (fun i h=>i=n∧h.IsTupleIter it l i∧h.IsTuple l items) where
 live:=fun _ _ st=>let ⟨o,ho,_⟩:=st.2.1; ⟨o,ho⟩
 frame:=fun i h h' st hk=>⟨st.1,(feed_tup (P:=prog) (w:=w) it l items hne).keep h h' i st.2 fun b hb o e=>hk b (by simpa using hb) o e⟩
 item:=fun i s Q E hi st hQ=>absurd st.1 (Nat.ne_of_lt hi)
 done:=fun s Q E st hE=>(feed_tup (P:=prog) (w:=w) it l items hne).fin _ s _ _ _ hh st.2 hn hE
theorem made_enum_tup (l:Addr) (its:Array Value) (n:Nat) (dc:Option Addr) (sl:Array (Option Value)) :
  Meets (Builtin.«enumerate.__new__» ⟨[.type "enumerate",.ref l],[]⟩) (fun _ R s=>s.heap.get? l=some {cls:=.type "tuple",dict:=dc,data:=.seq its n,slots:=sl}∧
   R (.ok (.ret (.ref (s.heap.push {cls:=.type "tuple_iterator",data:=.fields #[.ref l,.int 0 0]}).objs.size)))
    {s with heap:=(s.heap.push {cls:=.type "tuple_iterator",data:=.fields #[.ref l,.int 0 0]}).push {cls:=.type "enumerate",data:=.fields #[.none,.bool false,.ref s.heap.objs.size,rawInt 0,.none,.none]}}):=
 .of_wp fun prog w A R s h=>by
  obtain⟨hp,g,d,tk,os⟩:=s
  obtain⟨hl,h⟩:=h
  have sub:=sub_enumerate
  have ht:Heap.IsTuple (Shared.heap ⟨hp,g,d,tk,os⟩) l its:=⟨_,hl,rfl,n,rfl⟩
  wp_walk using AutoSeq1.wpAny_loadPart' hl
  refine wpAny_stack_any fun st=>wpAny_pure ?_
  split
  ·rename_i c _ _ _ _ _
   cases (c==Value.type "enumerate") <;> (wp_walk using AutoSeq1.wpAny_loadPart' hl,wpAny_pyIter_tuple ht; exact⟨_,rfl,h⟩)
  ·wp_walk using AutoSeq1.wpAny_loadPart' hl,wpAny_pyIter_tuple ht
   exact⟨_,rfl,h⟩
theorem call_enumerate_tup {prog:Program} {w:World} {A:Around} {E:Value→Shared→Prop} {s:Shared} {l:Addr} {its:Array Value} {Q:Value→Shared→Prop} (ht:s.heap.IsTuple l its)
  (h:∀ h',IsEnum h' (s.heap.objs.size+1) s.heap.objs.size 0 .none→h'.IsTupleIter s.heap.objs.size l 0→h'.objs.size=s.heap.objs.size+2→
   (∀ b o,s.heap.get? b=some o→h'.get? b=some o)→Q (.ref (s.heap.objs.size+1)) {s with heap:=h'}) :
  wpAny (model prog w) A (call (.type "enumerate") [.ref l]) Q E s:=by
 obtain⟨⟨c,dc,dt,sl⟩,hl,hc,n,hd⟩:=ht
 replace hc:c=.type "tuple":=hc
 replace hd:dt=.seq its n:=hd
 subst hc hd
 refine callType_new F.called_enumerate (by decide) (F.typeCall_enumerate_1 _) (F.newCall_enumerate_1 _) (fun obj=>F.args_object_init_2 obj _) F.entry_enumerate_new (made_enum_tup l its n dc sl) ⟨hl,?_⟩
 have z:=Heap.size_push s.heap {cls:=.type "tuple_iterator",data:=.fields #[.ref l,.int 0 0]}
 have he:=Heap.get?_push_size (s.heap.push {cls:=.type "tuple_iterator",data:=.fields #[.ref l,.int 0 0]}) (o:={cls:=.type "enumerate",data:=.fields #[.none,.bool false,.ref s.heap.objs.size,rawInt 0,.none,.none]}) rfl
 show _∧_
 rw [z] at he ⊢
 exact⟨⟨_,he,rfl⟩,h _ he ⟨_,Heap.get?_push_of_some _ (Heap.get?_push_size _ rfl),rfl,rfl⟩ (by rw [Heap.size_push,z]) fun b o x=>Heap.get?_push_of_some _ (Heap.get?_push_of_some _ x)⟩
def IteT (K:PySem.W.Frag) (a:Addr):It:=
 ⟨fun i H=>∃ xs x,SqT K H a xs∧xs[i]? = some x,fun i H v H'=>∃ p y,H p=none∧v=.ref p∧H'=upd H p (.tup [.int i,y])∧∀ xs,SqT K H a xs→xs[i]? = some y,fun i H=>∃ xs,SqT K H a xs∧xs.length≤i⟩
theorem turn_enumT {P:Program} {w:World} {K:PySem.W.Frag} {elts:List Expr} {k:Nat} {tpos:Pos} (a it e:Addr) (hei:e≠it):Turn P w K (.Tuple elts k tpos) (IteT K a) [e,it] e (fun i h=>(∃ old,IsEnum h e it i old)∧h.IsTupleIter it a i) where
 mem:=by simp
 obj:=fun i h st b hb=>by
  obtain⟨⟨old,he⟩,o,e1,_,d1⟩:=st
  rcases List.mem_cons.mp hb with rfl | hb
  ·exact⟨_,he,fun v z=>by cases z⟩
  ·rw [List.mem_singleton.mp hb]
   exact⟨o,e1,fun v z=>by rw [d1] at z; cases z⟩
 keep:=fun i h h' st k=>by
  obtain⟨⟨old,he⟩,o,e1,r⟩:=st
  exact⟨⟨old,k e (by simp) _ he⟩,o,k it (by simp) o e1,r⟩
 item:=by
  intro X hP hw hK hc i pins s σ H E I hf st hg
  subst hP hw hK
  obtain⟨xs,x,hq,hx⟩:=hg
  obtain⟨its,rv,pl,hz⟩:=I.tuple hq
  obtain⟨u,hu,ru⟩:=rv.get hx
  obtain⟨⟨old,he⟩,hit⟩:=st
  have D:=Draws_tup (prog:=X.prog) (w:=X.w) (A:=X.A.in1) (by simpa using I.ok.hd hc) it a (by
   rintro rfl
   obtain⟨_,e1,c1,_⟩:=hit
   obtain⟨_,e2,c2,_⟩:=pl
   rw [e1] at e2; cases e2
   rw [c1] at c2
   exact absurd (Value.type.inj c2) (by decide)) its.toArray
  have hi:i<its.toArray.size:=by simpa using (List.getElem?_eq_some_iff.mp hu).1
  have hea:e∉[it,a]:=by
   intro z
   rcases List.mem_cons.mp z with z | z
   ·exact hei z
   ·rw [List.mem_singleton.mp z] at he
    obtain⟨_,e2,c2,_⟩:=pl
    rw [he] at e2; cases e2
    exact absurd (Value.type.inj c2) (by decide)
  refine wpAny_pyNext_enum_itemD D he ⟨hit,show s.heap.IsTuple a its.toArray from pl⟩ hi hei hea fun x' h' tk hP ho hs' hT hsz hk=>?_
  obtain rfl:x'=u:=by
   have : its.toArray[i]? = some u:=by simpa using hu
   rw [this] at hP; exact(Option.some.inj hP).symm
  refine⟨_,rfl,?_⟩
  refine wpAny_letOwnedTupleGo_enum (s:={s with heap:=h',toks:=tk+1}) ho fun h2 he2 sb2=>?_
  have k2:∀ b o,b∉[e,it]→s.heap.get? b=some o→h2.get? b=some o:=fun b o nb q=>(sb2.2 b (fun z=>nb (by simp [z]))).trans (hk b o (fun z=>nb (by simp [z])) (fun z=>nb (by simp [z])) q)
  have lo:∀ b∈[e,it],Loose X pins H b:=fun b hb=>(hf b hb).loose
  have nF:∀ b∈[e,it],b∉frs X.stack:=fun b hb z=>by
   obtain⟨_,f1,f2,_⟩:=hf b hb
   exact(List.mem_cons.mp (I.stkSub b z)).elim f1 f2
  have I2:Inv X pins σ H {s with heap:=h2,toks:=tk+1}:=I.fly (t':=tk+1) lo (fun b o q n _=>k2 b o n q) fun b o q hb=>⟨o.slots,k2 b o (fun z=>nF b z hb) q⟩
  have hn:H s.heap.objs.size=none:=I.hok.fresh (Nat.le_refl _)
  have hTn:s.heap.objs.size≠e:=Nat.ne_of_gt (Heap.lt_size he)
  have hT2:h2.get? s.heap.objs.size=some {cls:=.type "tuple",data:=.seq #[.int i tk,x']}:=(sb2.2 _ hTn).trans hT
  have lT:Loose X pins H s.heap.objs.size:=I.loose (Heap.get?_none_of_le (Nat.le_refl _))
  have hok:ObjOk X.prog X.w (upd H s.heap.objs.size (.tup [.int i,x])) h2 s.heap.objs.size (.tup [.int i,x]):=⟨(by show 2≤sizeLine; decide),[.int i tk,x'],.cons ⟨tk,rfl⟩ (.cons ru .nil),⟨_,hT2,rfl,0,rfl⟩⟩
  refine⟨.ref s.heap.objs.size,upd H s.heap.objs.size (.tup [.int i,x]),I2.trackO lT hok,rfl,⟨_,x,hn,rfl,rfl,fun ys hy=>by rw [I.tuple_inj hy hq]; exact hx⟩,⟨⟨_,by simpa using he2⟩,?_⟩,fun b hb=>?_⟩
  ·obtain⟨o,e1,r⟩:=hs'.1
   exact⟨o,(sb2.2 it (Ne.symm hei)).trans e1,r⟩
  ·have : b≠s.heap.objs.size:=by
    rcases List.mem_cons.mp hb with rfl | hb
    ·exact Ne.symm hTn
    ·rw [List.mem_singleton.mp hb]
     obtain⟨_,e1,_⟩:=hit
     exact Nat.ne_of_lt (Heap.lt_size e1)
   rw [upd_ne this]; exact(hf b hb).1
 done:=by
  intro X hP hw hK hc i pins s σ H E I hf st hg
  subst hP hw hK
  obtain⟨xs,hq,hx⟩:=hg
  obtain⟨its,rv,pl,hz⟩:=I.tuple hq
  obtain⟨⟨old,he⟩,hit⟩:=st
  have hl:=rv.length
  have D:=Draws_tupEnd (prog:=X.prog) (w:=X.w) (A:=X.A.in1) (by simpa using I.ok.hd hc) it a (by
   rintro rfl
   obtain⟨_,e1,c1,_⟩:=hit
   obtain⟨_,e2,c2,_⟩:=pl
   rw [e1] at e2; cases e2
   rw [c1] at c2
   exact absurd (Value.type.inj c2) (by decide)) its.toArray i (by simp; omega)
  refine wpAny_pyNext_enum_endD D he ⟨rfl,hit,show s.heap.IsTuple a its.toArray from pl⟩ fun h' eb=>⟨rfl,?_⟩
  obtain⟨f0,f1,f2,f3,f4,f5⟩:=hf it (by simp)
  exact I.turned (t':=s.toks) (fun b o hb e=>eb b o hb e) f0 f1 f3 f4 f5
 self:=fun _ _ _ _ _ st h=>by
  obtain⟨⟨old,he⟩,_⟩:=st
  exact wpAny_pyIter_enum he h
section
variable {X:Cx} {elts:List Expr} {k:Nat} {tpos:Pos}
def iEnumT (K:PySem.W.Frag) (ta:TA):TI:=fun σ H R=>ta σ H fun vs H1=>∃ a xs,vs=[.ref a]∧SqT K H1 a xs∧R (IteT K a) H1
theorem pi_enumT {a:Expr} {ta:TA} {p pos:Pos} (hg:Gl X "enumerate") (hm:X.mg "enumerate"=none) (ha:PA X [a] ta) (hs:starEach [a] X.env=[(false,eval a X.env)]:=by rfl):PI X (.Tuple elts k tpos) (.Call (.Name "enumerate" p) [a] [] pos) (iEnumT X.K ta):=by
 intro pins s σ H R I h
 refine Call_ (ld_blt I hg hm boot_enum (PyProof.Rows.callWith_type1 (thn (ha pos pins s σ H _ I h) fun us s1 ⟨vs,H1,I1,r1,q1⟩=>?_) hs rfl))
 obtain⟨b,xs,e,hq,q⟩:=q1
 subst e
 cases r1 with
 | cons r rr=>
  cases rr
  cases r
  obtain⟨its,rv,pl,hz⟩:=I1.tuple hq
  refine call_enumerate_tup (show s1.heap.IsTuple b its.toArray from pl) fun h' hE hI hsz hk=>?_
  refine wpAny_pyIter_enum hE ?_
  refine⟨s1.heap.objs.size+1,[s1.heap.objs.size+1,s1.heap.objs.size],_,_,H1,rfl,I1.kept (t':=s1.toks) hk,turn_enumT b s1.heap.objs.size (s1.heap.objs.size+1) (Nat.succ_ne_self _),⟨⟨_,hE⟩,hI⟩,fun c hc=>?_,q⟩
  rcases List.mem_cons.mp hc with rfl | hc
  ·exact I1.fpOk (Nat.le_succ _) (I1.hok.fresh (Nat.le_succ _))
  ·rw [List.mem_singleton.mp hc]
   exact I1.fpOk (Nat.le_refl _) (I1.hok.fresh (Nat.le_refl _))
end
end L2
set_option maxHeartbeats 1000000
namespace L2
open PySem PySem.Spec PyProof.Rows
def rGetL (K:PySem.W.Frag):R2:=fun x y H Q=>∃ p xs i v,x=.ref p∧y=.int i∧0≤i∧SqL K H p xs∧atI xs i=some v∧Q v H
theorem get_list {X:Cx}:PGet X (rGetL X.K):=by
 intro pins s σ H x y v u Q I rx ry h
 obtain⟨p,xs,i,z,rfl,rfl,h0,hq,he,q⟩:=h
 cases rx
 obtain⟨t,rfl⟩:=ry
 obtain⟨its,r,pl,hz⟩:=I.list hq
 obtain⟨j,h1,h2,h3,h4,h5⟩:=atI_get he
 obtain⟨w,ew,rw'⟩:=r.get h2
 have hn:=line63
 have hl:=r.length
 have hj:i.toNat=j:=by
  rw [seqIndex_of h0 h5] at h1
  exact Option.some.inj h1
 exact wpAny_getItem_list pl.isList h0 (by omega) (by rw [hj]; simpa using ew) ⟨z,H,I,rw',q⟩
end L2
set_option maxHeartbeats 4000000
namespace L2
open PySem PySem.Spec PyProof.Rows
section
variable {X:Cx} {pins:List (Addr×Obj)} {σ:St} {H:Hp} {s:Shared}
theorem Inv.retell {a:Addr} {o u:HO} (I:Inv X pins σ H s) (e:H a=some o) (nt:∀ xs,o≠.tup xs) (no:∀ y,o≠.own y) (ntb:∀ ps,o≠.tbl ps) (nf:∀ ob v,X.H₀ a≠some (.frz ob v)) (ok:ObjOk X.prog X.w (upd H a u) s.heap a u):Inv X pins σ (upd H a u) s:=by
 have nn:∀ b,H b=none→b≠a:=fun b q=>Ne.symm (ne_of_none e q)
 have nu:∀ b v,H b=some v→o≠v→b≠a:=fun b v q n z=>by rw [z,e] at q; exact n (Option.some.inj q)
 refine⟨I.ok,I.os,I.bare,⟨I.base.keep,I.base.slot,fun b o q n hx=>?_,I.base.there,fun b xs q=>?_,fun b o xs q=>?_,fun b ps q=>?_⟩,I.loc,I.cell,?_,fun x c hc=>?_,fun p hp=>?_,fun b v q=>?_,I.len⟩
 ·have:=I.base.free b o q n hx
  rw [upd_ne (nn b this)]; exact this
 ·have:=I.base.tups b xs q
  rw [upd_ne (nu b _ this (nt xs))]; exact this
 ·rw [upd_ne (fun z=>nf o xs (by rw [← z]; exact q))]; exact I.base.frzs b o xs q
 ·obtain⟨m,z⟩:=I.base.tbls b ps q
  exact⟨m,by rw [upd_ne (nu b _ z (ntb _))]; exact z⟩
 ·rw [upd_ne (nn _ I.free)]; exact I.free
 ·rw [upd_ne (nn _ (I.freeC x c hc))]; exact I.freeC x c hc
 ·obtain⟨e1,n,r⟩:=I.pin p hp
  exact⟨e1,by rw [upd_ne (nn _ n)]; exact n,r⟩
 ·by_cases hb:b=a
  ·subst hb
   rw [upd_same] at q; cases q
   exact ok
  ·rw [upd_ne hb] at q
   exact(I.hok b v q).stay (fun _ _ _ z=>z) (fun c z=>by rw [upd_ne (nu c _ z (no _))]; exact z) fun c xs z=>by rw [upd_ne (nu c _ z (nt _))]; exact z
theorem Inv.freeze {a:Addr} {kvs:List (Key×V)} (I:Inv X pins σ H s) (e:H a=some (.dK kvs)):∃ ob,Inv X pins σ (upd H a (.frz ob (.dK kvs))) s∧∀ ob v,X.H₀ a≠some (.frz ob v):=by
 have nf:∀ ob v,X.H₀ a≠some (.frz ob v):=fun ob v z=>by have:=I.base.frzs a ob v z; rw [e] at this; cases this
 have ok:=I.hok a _ e
 obtain⟨z,y,vs,r,ob,es,ep,g,c⟩:=ok
 exact⟨ob,I.retell e (fun _ z=>nomatch z) (fun _ z=>nomatch z) (fun _ z=>nomatch z) nf ⟨g,z,y,vs,r,ob,es,ep,g,c⟩,nf⟩
theorem Inv.thaw {a:Addr} {ob:Obj} {kvs:List (Key×V)} (I:Inv X pins σ H s) (e:H a=some (.frz ob (.dK kvs))) (nf:∀ ob v,X.H₀ a≠some (.frz ob v)):Inv X pins σ (upd H a (.dK kvs)) s:=by
 obtain⟨g,z,y,vs,r⟩:=I.hok a _ e
 exact I.retell e (fun _ z=>nomatch z) (fun _ z=>nomatch z) (fun _ z=>nomatch z) nf ⟨z,y,vs,r⟩
def sFrz (t:TS):TS:=fun D σ H=>∃ a kvs,H a=some (.dK kvs)∧∀ ob,t {nx:=fun σ' H'=>H' a=some (.frz ob (.dK kvs))∧D.nx σ' (upd H' a (.dK kvs)),rt:=fun _ _=>False} σ (upd H a (.frz ob (.dK kvs)))
theorem ps_frz {st:Stmt} {t:TS} (h:PS X st t):PS X st (sFrz t):=by
 intro pins s σ H D I ⟨a,kvs,e,q⟩
 obtain⟨ob,I1,nf⟩:=I.freeze e
 refine thn (h pins s σ _ _ I1 (q ob)) fun f s' hf=>?_
 cases f with
 | next=>obtain⟨σ',H',I',e',q'⟩:=hf; exact⟨σ',_,I'.thaw e' nf,q'⟩
 | brk=>obtain⟨_,_,_,z⟩:=hf; exact z.elim
 | cont=>obtain⟨_,_,_,z⟩:=hf; exact z.elim
 | ret u=>obtain⟨_,_,_,_,_,z⟩:=hf; exact z.elim
def Itd (a:Addr) (ob:Obj):It:=
 ⟨fun i H=>∃ kvs,H a=some (.frz ob (.dK kvs))∧i<kvs.length,fun i H x H'=>H'=H∧∀ kvs,H a=some (.frz ob (.dK kvs))→∃ kv,kvs[i]? = some kv∧x=kV kv.1,fun i H=>∃ kvs,H a=some (.frz ob (.dK kvs))∧kvs.length=i⟩
theorem frz_raw {a:Addr} {ob:Obj} {kvs:List (Key×V)} {es:Array DictEntry} {ep:Nat} (I:Inv X pins σ H s) (e:H a=some (.frz ob (.dK kvs))) (hd:ob.data=.dict es ep):Raw s.heap a es ep∧es.size=kvs.length∧∀ i (h:i<es.size),∃ kv,kvs[i]? = some kv∧RelV (kV kv.1) es[i].key:=by
 obtain⟨g,z,y,vs,r,o,es',ep',g',ex,d,_,pr,_⟩:=I.hok a _ e
 rw [g] at g'; cases g'
 rw [hd] at d; cases d
 have l1:=pr.length
 have l2:=r.length
 rw [Array.length_toList] at l1
 refine⟨⟨ob,g,ex,hd⟩,by omega,fun i h=>?_⟩
 have hv:i<vs.length:=by omega
 have hk:i<kvs.length:=by omega
 obtain⟨p1,_⟩:=pr.get? (i:=i) (e:=es[i]) (k:=vs[i].1) (v:=vs[i].2) (by simp [h]) (by simp [hv])
 refine⟨kvs[i],by simp [hk],?_⟩
 have e1:kvs[i].1=vs[i].1:=by
  have:=KV.keys r
  have:=congrArg (fun l=>l[i]?) this
  simpa [hk,hv] using this
 rw [e1]
 have p1:keyIs vs[i].1 es[i].key=true:=p1
 rcases keyIs_shape p1 with ⟨j,t,q1,q2⟩ | ⟨x,t,q1,q2⟩
 ·rw [q1,q2]; exact⟨t,rfl⟩
 ·rw [q1,q2]; exact⟨t,rfl⟩
theorem turn_keys {P:Program} {w:World} {K:PySem.W.Frag} {tg:Expr} (a it:Addr) (ob:Obj) {es:Array DictEntry} {ep:Nat} (hd:ob.data=.dict es ep):Turn P w K tg (Itd a ob) [it] it (fun i h=>h.IsKeyIter it a i es.size ep) where
 mem:=by simp
 obj:=fun i h st b hb=>by
  have e:b=it:=by simpa using hb
  subst e
  obtain⟨o,e,c,d⟩:=st
  exact⟨o,e,fun v z=>by rw [d] at z; cases z⟩
 keep:=fun i h h' st k=>st.at fun o e=>k it (by simp) o e
 item:=by
  intro X hP hw hK hc i pins s σ H E I hf st hg
  subst hP hw hK
  obtain⟨kvs,hq,hi⟩:=hg
  obtain⟨raw,hz,hr⟩:=frz_raw I hq hd
  obtain⟨f0,f1,f2,f3,f4,f5⟩:=hf it (by simp)
  have hi':i<es.size:=by omega
  refine raw_item st raw hi' fun h' st' sb=>?_
  have I1:Inv X pins σ H {s with heap:=h'}:=I.turned (t':=s.toks) (fun b o hb e=>(sb.2 b hb).trans e) f0 f1 f3 f4 f5
  obtain⟨kv,e1,e2⟩:=hr i hi'
  refine⟨_,rfl,letGo_keyiter (s':={s with heap:=h'}) st' ⟨kV kv.1,H,I1,e2,⟨rfl,fun kvs' hy=>?_⟩,st',fun b hb=>(hf b hb).1⟩⟩
  rw [hq] at hy; cases hy
  exact⟨kv,e1,rfl⟩
 done:=by
  intro X hP hw hK hc i pins s σ H E I hf st hg
  subst hP hw hK
  obtain⟨kvs,hq,hi⟩:=hg
  obtain⟨raw,hz,hr⟩:=frz_raw I hq hd
  obtain⟨f0,f1,f2,f3,f4,f5⟩:=hf it (by simp)
  have hi':i=es.size:=by omega
  subst hi'
  exact raw_end (I.ok.hd hc) st raw fun h' eb=>⟨rfl,I.turned (t':=s.toks) (fun b o hb e=>eb b o hb e) f0 f1 f3 f4 f5⟩
 self:=fun _ _ _ _ _ st h=>wpAny_pyIter_keyiter st h
def iKeys (tl:TE):TI:=fun σ H R=>tl σ H fun x H1=>∃ a ob kvs,x=.ref a∧H1 a=some (.frz ob (.dK kvs))∧R (Itd a ob) H1
theorem pi_keys {tg l:Expr} {tl:TE} (hl:PE X l tl):PI X tg l (iKeys tl):=by
 intro pins s σ H R I h
 refine thn (hl pins s σ H _ I h) fun v s1 ⟨x,H1,I1,r1,q1⟩=>?_
 obtain⟨a,ob,kvs,e,hq,q⟩:=q1
 subst e
 cases r1
 obtain⟨g,z,y,vs,r,o,es,ep,g',ex,d,_⟩:=I1.hok a _ hq
 have : o=ob:=by rw [g] at g'; exact(Option.some.inj g').symm
 subst this
 refine raw_iter y ⟨o,g,ex,d⟩ ?_
 refine⟨s1.heap.objs.size,[s1.heap.objs.size],_,_,H1,rfl,I1.kept (t':=s1.toks) fun b o e=>Heap.get?_push_of_some _ e,turn_keys a _ o d,⟨_,Heap.get?_push_size _ rfl,rfl,rfl⟩,fun b hb=>?_,q⟩
 have e:b=s1.heap.objs.size:=by simpa using hb
 subst e
 exact I1.fpOk (Nat.le_refl _) (I1.hok.fresh (Nat.le_refl _))
end
section
variable {X:Cx} {n:Nat} {N':List Str} {scope:Scope} {elt cnd tg iter:Expr} {pos:Pos}
theorem PT.wish {e:Expr} {t:TT} (h:PT X.nox e t) (E:Value→Shared→Prop):PT (X.wish E) e t:=PT.nox (X:=X.wish E) h
theorem ps_setCompG {wi:TI} {g:InBlock TG} {tc:InBlock TT} {te:InBlock TE} {i:Nat} {x:Str} {pos' spos:Pos} (hN:X.N.Nodup) (hi0:X.N[i]? = some x) (hx:Loc X.env.scope x)
  (hsw:swapsWith (.ListComp elt [⟨tg,iter,[cnd],0⟩] scope pos) (some (.Name x pos')) spos.line X.env=pure true)
  (fr:Framed X) (hc:X.calm=true) (S:CompScope n N' X.nox scope) (hi:PI X.nox tg iter wi)
  (hg:∀ cl C ex s H,PG (cxComp X.nox N' scope cl C ex s H) tg (g cl C ex s H)) (hcn:∀ cl C ex s H,PT (cxComp X.nox N' scope cl C ex s H) cnd (tc cl C ex s H)) (he:∀ cl C ex s H,PE (cxComp X.nox N' scope cl C ex s H) elt (te cl C ex s H))
  (hs:∀ x,foldedSetIterable iter X.env x=pure x:=by intro _; rfl) (hf:X.fn x=true∨X.env.scope.names.lookup x=some .local:=by first | exact .inl rfl | exact .inr rfl | assumption) :
  PS X.nox (.Assign [.Name x pos'] (.ListComp elt [⟨tg,iter,[cnd],0⟩] scope pos) spos) (tAsg (tCompF n wi g tc te) (gName i)):=by
 intro pins s σ H D I h
 have S':CompScope n N' X scope:=⟨S.kind,S.names,S.cell,S.free,S.nd,S.len,S.look⟩
 refine wpAny_mono (ps_setCompF (X:=X) (E0:=fun _ _ _=>False) hN hi0 hx hsw fr hc S' (hi.wish _) (fun cl C ex s H=>PG.wish (X:=cxComp X N' scope cl C ex s H) (hg cl C ex s H) _) (fun cl C ex s H=>PT.wish (X:=cxComp X N' scope cl C ex s H) (hcn cl C ex s H) _) (fun cl C ex s H=>PE.wish (X:=cxComp X N' scope cl C ex s H) (he cl C ex s H) _) hs hf pins s σ H D (I.unwish.wish _) h)
  (fun f s' z=>?_) fun e s z=>?_
 ·have:=z.unwish
  cases f with
  | next=>obtain⟨σ',H',I,q⟩:=this; exact⟨σ',H',I.wish _,q⟩
  | brk=>obtain⟨σ',H',I,q⟩:=this; exact⟨σ',H',I.wish _,q⟩
  | cont=>obtain⟨σ',H',I,q⟩:=this; exact⟨σ',H',I.wish _,q⟩
  | ret u=>obtain⟨v,σ',H',I,r,q⟩:=this; exact⟨v,σ',H',I.wish _,r,q⟩
 ·obtain⟨a,L,cls,σ',H',fl,S,env0,rest,h1,h2,h3,h4,h5,h6,h7,h8,hE⟩:=z
  exact hE
end
end L2
set_option maxHeartbeats 1000000
namespace L2
open PySem PySem.Spec PyProof.Rows
section
variable {X:Cx}
def isNone:Value→Bool
 | .none=>true
 | _=>false
def Thg (K:PySem.W.Frag) (H:Hp) (v:V):Prop:=v=.non∨(∃ x,v=.str x)∨∃ a xs,v=.ref a∧SqT K H a xs
theorem any_none {K:PySem.W.Frag} {H:Hp}:∀ {xs:List V} {us:List Value},Vals xs us→(∀ v∈xs,Thg K H v)→us.any isNone=xs.any fun v=>decide (v=.non)
 | _,_,.nil,_=>rfl
 | v::xs,u::us,.cons r t,f=>by
  rw [List.any_cons,List.any_cons,any_none t fun y hy=>f y (List.mem_cons_of_mem _ hy)]
  congr 1
  rcases f v List.mem_cons_self with rfl | ⟨x,rfl⟩ | ⟨a,ys,rfl,_⟩
  ·cases r; rfl
  ·obtain⟨_,rfl⟩:=r; rfl
  ·cases r; rfl
theorem mem_vals:∀ {xs:List V} {us:List Value} {u:Value},Vals xs us→u∈us→∃ v∈xs,RelV v u
 | _,_,_,.nil,h=>by cases h
 | _,_,_,.cons r t,h=>by
  rcases List.mem_cons.mp h with rfl | h
  ·exact⟨_,List.mem_cons_self,r⟩
  ·obtain⟨v,hv,q⟩:=mem_vals t h
   exact⟨v,List.mem_cons_of_mem _ hv,q⟩
theorem op_nonIn (hu:X.A.units+1<cLine):OpR X (compareOp .In) (fun x y H Q=>∃ p xs,x=.non∧y=.ref p∧SqL X.K H p xs∧(∀ v∈xs,Thg X.K H v)∧Q (.bl (xs.any fun v=>decide (v=.non))) H):=by
 intro pins s σ H x y v u Q I rx ry h
 obtain⟨p,xs,rfl,rfl,hq,ht,q⟩:=h
 cases rx
 cases ry
 obtain⟨its,r,pl,hz⟩:=I.list hq
 refine SeqAt.in_listAt isNone pl.isList (fun w hw=>?_) ⟨.bl _,H,I,rfl,?_⟩
 ·obtain⟨v,hv,rv⟩:=mem_vals r (by simpa using hw)
  rcases ht v hv with rfl | ⟨x,rfl⟩ | ⟨a,ys,rfl,hs⟩
  ·cases rv; exact SeqAt.EqAt.same _
  ·obtain⟨t,rfl⟩:=rv; exact SeqAt.EqAt.str_none x t
  ·cases rv
   obtain⟨jts,_,pt,_⟩:=I.tuple hs
   exact SeqAt.EqAt.tuple_none (show s.heap.IsTuple a jts.toArray from pt) hu
 ·rw [show its.toArray.any isNone=its.any isNone by simp,any_none r ht]
  exact q
theorem op_neL0 (hu:X.A.units<cLine):OpR X (compareOp .NotEq) (fun x y H Q=>∃ (a b:Addr) (xs:List V),x=.ref a∧y=.ref b∧SqL X.K H a xs∧SqL X.K H b []∧Q (.bl (!xs.isEmpty)) H):=by
 intro pins s σ H x y v u Q I rx ry h
 obtain⟨a,b,xs,rfl,rfl,ha,hb,q⟩:=h
 cases rx
 cases ry
 obtain⟨its,r1,p1,_⟩:=I.list ha
 obtain⟨jts,r2,p2,_⟩:=I.list hb
 cases r2
 cases r1 with
 | nil=>
  refine SeqAt.RcNeAt.lists (e:=fun _=>true) p1.isList p2.isList rfl hu (fun j h1 _=>absurd h1 (by simp)) X.prog X.w X.xe _ ⟨.bl false,H,I.tok _,?_,q⟩
  show Value.bool _=Value.bool false
  congr 1
 | cons r t=>
  exact SeqAt.RcNeAt.lists_lengths p1.isList p2.isList (by simp) hu X.prog X.w X.xe _ ⟨.bl true,H,I.tok _,rfl,q⟩
end
end L2
set_option maxHeartbeats 4000000
namespace L2
open PySem PySem.Spec PyProof.Rows
abbrev LC(k:NameKind)(s:Scope)(x:String):Prop:=s.names.lookup (Str.ofString x)=some k
abbrev LN(k:NameKind)(s:Stmt)(x:String):Prop:=(defScope s).names.lookup (Str.ofString x)=some k
abbrev LD(x:String):Prop:=((Str.ofString x:Str)==("__debug__":Str))=false
abbrev LS(x:String):Prop:=((Str.ofString x:Str)==("__classdict__":Str))=false
abbrev LM(x:String):Prop:=(Str.ofString x:Str)≠"__name__"
end L2
namespace Few
open PySem L2
def top (i:Nat):Stmt:=PySem.Challenge.pw_fewthings_k14_sayings_written_back.main.body.getD i (.Pass ⟨0,0,0,0⟩)
structure Bl (mg:Str→Option Value):Prop where
 n_len:mg "len"=none
 n_max:mg "max"=none
 n_abs:mg "abs"=none
 n_divmod:mg "divmod"=none
 n_list:mg "list"=none
 n_tuple:mg "tuple"=none
 n_range:mg "range"=none
 n_int:mg "int"=none
 n_str:mg "str"=none
 n_repr:mg "repr"=none
 n_isinstance:mg "isinstance"=none
 n_all:mg "all"=none
 n_set:mg "set"=none
theorem erase_map {α β:Type} (f:α→β):∀ (l:List α) (i:Nat),(l.map f).eraseIdx i=(l.eraseIdx i).map f
 | [],_=>rfl
 | _::_,0=>rfl
 | x::r,i+1=>by
  show f x::(r.map f).eraseIdx i=f x::(r.eraseIdx i).map f
  rw [erase_map f r i]
theorem perm_erase {α:Type}:∀ (l:List α) (i:Nat) (h:i<l.length),(l[i]::l.eraseIdx i).Perm l
 | x::r,0,_=>List.Perm.refl _
 | x::r,i+1,h=>by
  show (r[i]'(by simpa using h)::x::r.eraseIdx i).Perm (x::r)
  exact(List.Perm.swap _ _ _).trans (List.Perm.cons x (perm_erase r i (by simpa using h)))
theorem zba:LD "_law_cell_here":=by decide +kernel
theorem zbb:LS "_law_cell_here":=by decide +kernel
theorem zbc:LD "_law_digit":=by decide +kernel
theorem zbd:LS "_law_digit":=by decide +kernel
theorem zbe:LD "_law_draw":=by decide +kernel
theorem zbf:LD "_law_k":=by decide +kernel
theorem zbg:LS "_law_k":=by decide +kernel
theorem zbh:LD "_law_left":=by decide +kernel
theorem zbi:LS "_law_left":=by decide +kernel
theorem zbj:LD "_law_many":=by decide +kernel
theorem zbk:LS "_law_many":=by decide +kernel
theorem zbl:LD "_law_menu":=by decide +kernel
theorem zbm:LS "_law_menu":=by decide +kernel
theorem zbn:LD "_law_pot_here":=by decide +kernel
theorem zbo:LS "_law_pot_here":=by decide +kernel
theorem zbp:LD "_law_script":=by decide +kernel
theorem zbq:LS "_law_script":=by decide +kernel
theorem zbr:LD "abs":=by decide +kernel
theorem zbs:LM "abs":=by decide +kernel
theorem zbt:LD "divmod":=by decide +kernel
theorem zbu:LM "divmod":=by decide +kernel
theorem zbv:LD "len":=by decide +kernel
theorem zbw:LM "len":=by decide +kernel
theorem zbx:LD "list":=by decide +kernel
theorem zby:LM "list":=by decide +kernel
theorem zbz:LD "max":=by decide +kernel
theorem zb0:LM "max":=by decide +kernel
section
variable {P:Program} {w:World} {K:PySem.W.Frag} {mg:Str→Option Value} {base:Heap}
def spCell:Sp:=fun vs H Q _=>∃ (a:Addr) (ns:List Int) (k:Nat),vs=[.ref a,.int k]∧SqL K H a (ns.map V.int)∧∀ n,Q (.int n) H
abbrev s_law_cell:Stmt:=top 38
theorem zb1:FnScope ["_law_script","_law_k"] ["_law_script","_law_k"] (defScope s_law_cell):=⟨rfl,rfl,rfl,by decide +kernel,rfl,by decide +kernel,by decide +kernel⟩
theorem zb2:LN .local s_law_cell "_law_k":=by decide +kernel
theorem zb3:LN .local s_law_cell "_law_script":=by decide +kernel
theorem zb4:LN .globalImplicit s_law_cell "len":=by decide +kernel
theorem ok_cell (F:FunAt K mg "_law_cell" s_law_cell ["_law_script","_law_k"]) (Z:Bl mg):Def P w K mg base "_law_cell" 1 ["_law_script","_law_k"] (spCell (K:=K)):=by
 have SC:=zb1
 refine F.mk' (k:=0) zb1 (fun vs H Q E h=>?_) (fun f cdv A outer s H vs Q E hr h=>?_)
 ·obtain⟨a,ns,k,rfl,_⟩:=h
  rfl
 ·obtain⟨a,ns,k,rfl,hS,q⟩:=h
  refine'⟨_,?derivation,?_⟩
  case derivation=>refine' pss_cons ?Aa ?Ba;(case Aa=>refine' ps_if ?Ca ?Da pss_nil;(case Ca=>refine' pt_cmpR op_lt (pq 1 (visL zb2) zbf zbg) ?Ea (nomark _);case Ea=>refine' pe_callB (hn:=zbw) (hdb:=zbv) call_len_seq zb4 Z.n_len bt_len ?Fa rfl rfl;case Fa=>refine' pa_cons (pq 0 (visL zb3) zbp zbq) pa_nil ?Ga;case Ga=>rfl);case Da=>refine' pss_one ?Ha;case Ha=>refine' ps_ret ?Ia;case Ia=>refine' pe_ix ix_list (pq 0 (visL zb3) zbp zbq) (pq 1 (visL zb2) zbf zbg) ?Ja;case Ja=>intro _ _;exact rfl);case Ba=>refine' pss_one ?Ka;case Ka=>refine' ps_ret ?La;case La=>exact pe_int
  refine⟨_,rfl,_,rfl,a,_,rfl,.inl hS,_,_,rfl,rfl,_,rfl,?_⟩
  refine ite2 (fun hc=>?_) (fun hc=>q 0)
  have hc:(k:Int)<((ns.map V.int).length:Int):=of_decide_eq_true hc
  rw [List.length_map] at hc
  have hk:k<ns.length:=by omega
  refine⟨_,rfl,_,rfl,a,_,_,_,rfl,rfl,hS,atI_nat (v:=V.int ns[k]) (by simp [hk]),q _⟩
def PotAt (H:Hp) (p:Addr):Prop:=∃ a b c:Int,H p=some (.lst [.int a,.int b,.int c])∧0≤a∧0≤b∧b<4294967296
def spPot:Sp:=fun vs H Q _=>∃ n:Int,vs=[.int n]∧∀ p H',H p=none→PotAt H' p→Same H H'→Q (.ref p) H'
abbrev s_law_pot:Stmt:=top 39
theorem zb5:FnScope ["_law_cell_here"] ["_law_cell_here"] (defScope s_law_pot):=⟨rfl,rfl,rfl,by decide +kernel,rfl,by decide +kernel,by decide +kernel⟩
theorem zb6:LN .local s_law_pot "_law_cell_here":=by decide +kernel
theorem zb7:LN .globalImplicit s_law_pot "abs":=by decide +kernel
theorem zb8:LN .globalImplicit s_law_pot "max":=by decide +kernel
theorem ok_pot (F:FunAt K mg "_law_pot" s_law_pot ["_law_cell_here"]) (Z:Bl mg):Def P w K mg base "_law_pot" 1 ["_law_cell_here"] spPot:=by
 have SC:=zb5
 refine F.mk' (k:=0) zb5 (fun vs H Q E h=>?_) (fun f cdv A outer s H vs Q E hr h=>?_)
 ·obtain⟨n,rfl,_⟩:=h
  rfl
 ·obtain⟨n,rfl,q⟩:=h
  refine'⟨_,?derivation,?_⟩
  case derivation=>refine' pss_one ?Aa;case Aa=>refine' ps_ret ?Ba;case Ba=>refine' pe_lst ?Ca;case Ca=>refine' pa_cons ?Da ?Ea ?Fa;(case Da=>refine' pe_callB (hn:=zb0) (hdb:=zbz) (call_max2 rfl) zb8 Z.n_max bt_max ?Ga rfl rfl;case Ga=>refine' pa_cons ?Ha ?Ia ?Ja;(case Ha=>exact pe_int);(case Ia=>refine' pa_cons ?Ka pa_nil ?La;(case Ka=>refine' pe_op op_sub ?Ma ?Na;(case Ma=>refine' pe_callB (hn:=zbs) (hdb:=zbr) call_abs zb7 Z.n_abs bt_abs ?Oa rfl rfl;case Oa=>refine' pa_cons (pq 0 (visL zb6) zba zbb) pa_nil ?Pa;case Pa=>rfl);case Na=>refine' pe_op op_pow ?Qa ?Ra;(case Qa=>exact pe_int);case Ra=>exact pe_int);case La=>rfl);case Ja=>rfl);(case Ea=>refine' pa_cons ?Sa ?Ta ?Ua;(case Sa=>refine' pe_op op_add ?Va ?Wa;(case Va=>refine' pe_op op_mod ?Xa ?Ya;(case Xa=>refine' pe_callB (hn:=zbs) (hdb:=zbr) call_abs zb7 Z.n_abs bt_abs ?Za rfl rfl;case Za=>refine' pa_cons (pq 0 (visL zb6) zba zbb) pa_nil ?Ab;case Ab=>rfl);case Ya=>exact pe_int);case Wa=>exact pe_int);(case Ta=>refine' pa_cons ?Bb pa_nil ?Cb;(case Bb=>exact pe_int);case Cb=>rfl);case Ua=>rfl);case Fa=>rfl
  refine⟨_,rfl,_,rfl,_,_,rfl,rfl,⟨by decide,by decide,by decide⟩,_,_,rfl,rfl,_,_,rfl,?_⟩
  refine⟨_,rfl,_,rfl,_,_,rfl,rfl,(by show (0:Int)<2147483629; decide),_,_,rfl,rfl,(by show 3≤sizeLine; decide),fun p hp=>?_⟩
  refine q p _ hp ⟨_,_,_,upd_same,?_,?_,?_⟩ (same_new hp _)
  ·split <;> omega
  ·have:=Int.emod_nonneg (if n<0 then -n else n) (b:=2147483629) (by decide)
   omega
  ·have:=Int.emod_lt_of_pos (if n<0 then -n else n) (b:=2147483629) (by decide)
   omega
def spDraw:Sp:=fun vs H Q _=>∃ (p:Addr) (m:Int),vs=[.ref p,.int m]∧PotAt H p∧0<m∧m<1000∧∀ (r:Int) H',0≤r→r<m→PotAt H' p→SameX p H H'→Q (.int r) H'
abbrev s_law_draw:Stmt:=top 40
theorem zb9:FnScope ["_law_pot_here","_law_many","_law_digit"] ["_law_pot_here","_law_many"] (defScope s_law_draw):=⟨rfl,rfl,rfl,by decide +kernel,rfl,by decide +kernel,by decide +kernel⟩
theorem zca:LN .local s_law_draw "_law_digit":=by decide +kernel
theorem zcb:LN .local s_law_draw "_law_many":=by decide +kernel
theorem zcc:LN .local s_law_draw "_law_pot_here":=by decide +kernel
theorem zcd:LN .globalImplicit s_law_draw "divmod":=by decide +kernel
theorem ok_draw (F:FunAt K mg "_law_draw" s_law_draw ["_law_pot_here","_law_many"]) (Z:Bl mg):Def P w K mg base "_law_draw" 1 ["_law_pot_here","_law_many"] spDraw:=by
 have SC:=zb9
 refine F.mk' (k:=0) zb9 (fun vs H Q E h=>?_) (fun f cdv A outer s H vs Q E hr h=>?_)
 ·obtain⟨p,m,rfl,_⟩:=h
  rfl
 ·obtain⟨p,m,rfl,⟨a,b,c,hp,ha,hb,hb2⟩,hm,hm2,q⟩:=h
  refine'⟨_,?derivation,?_⟩
  case derivation=>refine' pss_cons ?Aa ?Ba;(case Aa=>refine' ps_if ?Ca ?Da pss_nil;(case Ca=>refine' pt_cmpR op_gt ?Ea ?Fa (nomark _);(case Ea=>refine' pe_ix ix_list (pq 0 (visL zcc) zbn zbo) ?Ga ?Ha;(case Ga=>exact pe_int);case Ha=>intro _ _;exact rfl);case Fa=>exact pe_int);case Da=>refine' pss_cons ?Ia ?Ja;(case Ia=>refine' ps_asg ?Ka ?La ?Ma ?Na ?Oa;(case Ka=>refine' pe_callB (hn:=zbu) (hdb:=zbt) call_divmod zcd Z.n_divmod bt_divmod ?Pa rfl rfl;case Pa=>refine' pa_cons ?Qa ?Ra ?Sa;(case Qa=>refine' pe_ix ix_list (pq 0 (visL zcc) zbn zbo) ?Ta ?Ua;(case Ta=>exact pe_int);case Ua=>intro _ _;exact rfl);(case Ra=>refine' pa_cons (pq 1 (visL zcb) zbj zbk) pa_nil ?Va;case Va=>rfl);case Sa=>rfl);(case La=>refine' pg_tup rfl ?Wa rfl rfl;case Wa=>refine' pgs_cons ?Xa ?Ya ?Za;(case Xa=>refine' pg_sub (pq 0 (visL zcc) zbn zbo) ?Ab set_list ?Bb;(case Ab=>exact pe_int);case Bb=>intro _; rfl);(case Ya=>refine' pgs_cons ?Cb pgs_nil ?Db;(case Cb=>refine' pg_name (i:=2) (x:=Str.ofString "_law_digit") SC.nd rfl (Or.inl zca) (.inl rfl));case Db=>rfl);case Za=>rfl);(case Ma=>rfl);(case Na=>rfl);case Oa=>rfl);case Ja=>refine' pss_one ?Eb;case Eb=>refine' ps_ret (pq 2 (visL zca) zbc zbd));case Ba=>refine' pss_cons ?Fb ?Gb;(case Fb=>refine' ps_asg ?Hb ?Ib ?Jb ?Kb ?Lb;(case Hb=>refine' pe_op op_mod ?Mb ?Nb;(case Mb=>refine' pe_op op_add ?Ob ?Pb;(case Ob=>refine' pe_op op_mul ?Qb ?Rb;(case Qb=>refine' pe_ix ix_list (pq 0 (visL zcc) zbn zbo) ?Sb ?Tb;(case Sb=>exact pe_int);case Tb=>intro _ _;exact rfl);case Rb=>exact pe_int);case Pb=>exact pe_int);case Nb=>exact pe_int);(case Ib=>refine' pg_sub (pq 0 (visL zcc) zbn zbo) ?Ub set_list ?Vb;(case Ub=>exact pe_int);case Vb=>intro _; rfl);(case Jb=>rfl);(case Kb=>rfl);case Lb=>rfl);case Gb=>refine' pss_one ?Wb;case Wb=>refine' ps_ret ?Xb;case Xb=>refine' pe_op op_mod ?Yb (pq 1 (visL zcb) zbj zbk);case Yb=>refine' pe_op op_fdiv ?Zb ?Ac;(case Zb=>refine' pe_op op_mod ?Bc ?Cc;(case Bc=>refine' pe_op op_mul ?Dc ?Ec;(case Dc=>refine' pe_ix ix_list (pq 0 (visL zcc) zbn zbo) ?Fc ?Gc;(case Fc=>exact pe_int);case Gc=>intro _ _;exact rfl);case Ec=>refine' pe_ix ix_list (pq 0 (visL zcc) zbn zbo) ?Hc ?Ic;(case Hc=>exact pe_int);case Ic=>intro _ _;exact rfl);case Cc=>exact pe_int);case Ac=>exact pe_int
  refine⟨_,rfl,p,_,_,_,rfl,rfl,SqL.of hp,rfl,_,_,rfl,rfl,_,rfl,?_⟩
  refine ite2 (fun hc=>?_) (fun hc=>?_)
  ·refine⟨_,rfl,p,_,_,_,rfl,rfl,SqL.of hp,rfl,_,rfl,_,_,rfl,⟨hm,by omega⟩,fun t ht=>?_⟩
   have npt:p≠t:=ne_of_none hp ht
   refine⟨t,_,rfl,SqT.of upd_same,rfl,_,_,rfl,_,rfl,p,_,_,_,rfl,rfl,(by rw [upd_ne npt]; exact hp),rfl,_,_,rfl,⟨rfl,_,rfl,?_⟩⟩
   refine q _ _ (Int.emod_nonneg _ (by omega)) (Int.emod_lt_of_pos _ hm) ⟨_,_,_,upd_same,Int.ediv_nonneg ha (by omega),hb,hb2⟩ (fun b o n e=>?_)
   rw [upd_ne n,upd_ne (ne_of_none e ht)]; exact e
  ·refine⟨_,rfl,p,_,_,_,rfl,rfl,SqL.of hp,rfl,_,_,rfl,rfl,.inr ⟨by decide,by decide⟩,_,_,rfl,rfl,_,_,rfl,rfl,(by show (0:Int)<2147483647; decide),?_⟩
   have g0:0≤(b*48271+11) % 2147483647:=Int.emod_nonneg _ (by decide)
   have g1:(b*48271+11) % 2147483647<2147483647:=Int.emod_lt_of_pos _ (by decide)
   refine⟨_,rfl,p,_,_,_,rfl,rfl,hp,rfl,?_⟩
   refine⟨_,rfl,p,_,_,_,rfl,rfl,SqL.of upd_same,rfl,_,rfl,p,_,_,_,rfl,rfl,SqL.of upd_same,rfl,_,_,rfl,rfl,.inl ⟨by omega,by omega⟩,_,_,rfl,rfl,(by show (0:Int)<2147483629; decide),_,_,rfl,rfl,⟨by decide,by decide⟩,_,rfl,_,_,rfl,rfl,hm,?_⟩
   refine q _ _ (Int.emod_nonneg _ (by omega)) (Int.emod_lt_of_pos _ hm) ⟨_,_,_,upd_same,ha,g0,by omega⟩ (fun b o n e=>?_)
   rw [upd_ne n]; exact e
structure Went (p:Addr) (H H':Hp):Prop where
 pot:PotAt H' p
 same:SameX p H H'
theorem PotAt.keep {H H':Hp} {p:Addr} (h:PotAt H p) (s:Same H H'):PotAt H' p:=let ⟨a,b,c,e,r⟩:=h; ⟨a,b,c,s _ _ e,r⟩
theorem PotAt.some {H:Hp} {p:Addr} (h:PotAt H p):∃ o,H p=some o:=let ⟨_,_,_,e,_⟩:=h; ⟨_,e⟩
def spUnlike:Sp:=fun vs H Q _=>∃ (p a:Addr) (m:Nat) (xs:List Str),vs=[.ref p,.int m,.ref a]∧PotAt H p∧SqL K H a (xs.map V.str)∧m≤xs.length∧xs.length<100∧xs.Nodup∧
 ∀ l (ys:List Str) H',H l=none→H' l=some (.lst (ys.map V.str))→ys.length=m→ys.Nodup→(∀ y∈ys,y∈xs)→Went p H H'→Q (.ref l) H'
abbrev s_law_unlike:Stmt:=top 41
theorem zce:FnScope ["_law_pot_here","_law_many","_law_menu","_law_left"] ["_law_pot_here","_law_many","_law_menu"] (defScope s_law_unlike):=⟨rfl,rfl,rfl,by decide +kernel,rfl,by decide +kernel,by decide +kernel⟩
theorem zcf:LN .cell s_law_unlike "_law_left":=by decide +kernel
theorem zcg:LN .local s_law_unlike "_law_many":=by decide +kernel
theorem zch:LN .local s_law_unlike "_law_menu":=by decide +kernel
theorem zci:LN .globalImplicit s_law_unlike "list":=by decide +kernel
theorem zcj:LN .globalImplicit s_law_unlike "range":=by decide +kernel
abbrev QS0:Scope:={kind:=PySem.ScopeKind.function,names:=[ (PySem.Str.ofString ".0",PySem.NameKind.local),(PySem.Str.ofString "_law_k",PySem.NameKind.local),(PySem.Str.ofString "_law_draw",PySem.NameKind.globalImplicit),(PySem.Str.ofString "len",PySem.NameKind.globalImplicit),(PySem.Str.ofString "_law_left",PySem.NameKind.free),(PySem.Str.ofString "_law_pot_here",PySem.NameKind.free)],isGenerator:=false,isCoroutine:=false,more:=[]:PySem.Scope}
theorem zck:CompSc 1 ["_law_k","_law_pot_here","_law_many","_law_menu","_law_left"] ["_law_pot_here","_law_many","_law_menu","_law_left"] (defScope s_law_unlike) QS0:=⟨rfl,by decide +kernel,by decide +kernel,by decide +kernel,by decide +kernel,rfl,by decide +kernel⟩
theorem zcl:LC .globalImplicit QS0 "_law_draw":=by decide +kernel
theorem zcm:LC .local QS0 "_law_k":=by decide +kernel
theorem zcn:LC .free QS0 "_law_left":=by decide +kernel
theorem zco:LC .free QS0 "_law_pot_here":=by decide +kernel
theorem zcp:LC .globalImplicit QS0 "len":=by decide +kernel
theorem ok_unlike (F:FunAt K mg "_law_unlike" s_law_unlike ["_law_pot_here","_law_many","_law_menu"]) (Z:Bl mg) (D_law_draw:Def P w K mg base "_law_draw" 1 ["_law_pot_here","_law_many"] spDraw):Def P w K mg base "_law_unlike" 2 ["_law_pot_here","_law_many","_law_menu"] (spUnlike (K:=K)):=by
 have SC:=zce
 refine F.mk' (k:=1) zce (fun vs H Q E h=>?_) (fun f cdv A outer s H vs Q E hr h=>?_)
 ·obtain⟨p,a,m,xs,rfl,_⟩:=h
  rfl
 ·obtain⟨p,a,m,xs,rfl,hp,ha,hm,hx,hn,q⟩:=h
  refine'⟨_,?derivation,?_⟩
  case derivation=>refine' pss_cons ?Aa ?Ba;(case Aa=>refine' ps_set (i:=3) (x:=Str.ofString "_law_left") ?Ca ?Da ?Ea ?Fa ?Ga ?Ha;(case Ca=>exact SC.nd);(case Da=>exact rfl);(case Ea=>exact(Or.inr zcf));(case Fa=>refine' pe_callTy (hn:=zby) (hdb:=zbx) ?Ia zci Z.n_list bt_list ?Ja rfl rfl;(case Ia=>exact call_list_of);case Ja=>refine' pa_cons (pq 2 (visL zch) zbl zbm) pa_nil ?Ka;case Ka=>rfl);(case Ga=>rfl);case Ha=>exact .inl rfl);case Ba=>refine' pss_one ?La;case La=>refine' ps_ret ?Ma;case Ma=>refine' pe_comp noxe rfl zck.at ?Na ?Oa ?Pa ?Qa;(case Na=>refine' pi_range1 zcj Z.n_range ?Ra rfl;case Ra=>refine' pa_cons (pq 1 (visL zcg) zbj zbk) pa_nil ?Sa;case Sa=>rfl);(case Oa=>intro _ _ _ _ _;refine' pg_name (i:=0) zck.nd rfl (locO zcm) (.inr (lookup_relabel_local zcm)));(case Pa=>intro _ _ _ _ _;refine' pe_bm PySem.F.plainAttrs_list PySem.F.slot_list_pop PySem.F.type_list_pop mt_popAt (pq 4 (visF zcn) zbh zbi) ?Ta rfl rfl rfl rfl rfl;case Ta=>refine' pa_cons ?Ua pa_nil ?Va;(case Ua=>refine' pe_def (hdb:=zbe) D_law_draw (hr.mono (by decide)) (glO zcl) ?Wa rfl rfl;case Wa=>refine' pa_cons (pq 1 (visF zco) zbn zbo) ?Xa ?Ya;(case Xa=>refine' pa_cons ?Za pa_nil ?Ab;(case Za=>refine' pe_callB (hn:=zbw) (hdb:=zbv) call_len_seq (glO zcp) Z.n_len bt_len ?Bb rfl rfl;case Bb=>refine' pa_cons (pq 4 (visF zcn) zbh zbi) pa_nil ?Cb;case Cb=>rfl);case Ab=>rfl);case Ya=>rfl);case Va=>rfl);case Qa=>intro _; rfl
  refine⟨_,rfl,a,_,rfl,.inl ha,fun L hL=>?_⟩
  refine⟨_,rfl,m,rfl,by omega,by omega,?_⟩
  intro cl C ex s0 H0
  have hpL:p≠L:=by obtain⟨o,e⟩:=hp.some; exact ne_of_none e hL
  refine comp_it1 m (fun i ys H1=>∃ zs ws:List Str,H1 L=some (.lst (zs.map V.str))∧zs.length+i=xs.length∧ys=ws.map V.str∧(ws++zs).Nodup∧(∀ y∈ws++zs,y∈xs)∧Went p H H1) (fun _ _=>True)
   ⟨xs,[],upd_same,rfl,rfl,hn,fun y hy=>hy,hp.keep (same_new hL _),(same_new hL _).x⟩ (Nat.le_trans (Nat.le_trans hm (by omega)) (show 100≤sizeLine by decide)) (fun i ys H1 hi _ _=>⟨hi,fun x H' y=>⟨y.1,trivial⟩⟩) (fun _ _ _ _=>Nat.le_refl _) ?_ ?_
  ·rintro i x ys H1 hi _ hy ⟨zs,ws,hzL,hzl,rfl,hnd,hsub,W⟩
   refine⟨_,rfl,.inl ⟨rfl,_,SqL.of hzL⟩,_,rfl,_,rfl,L,_,rfl,.inl (SqL.of hzL),p,_,rfl,W.pot,?_,?_,fun r H2 h0 h1 hp2 s2=>?_⟩
   ·rw [List.length_map]; omega
   ·rw [List.length_map]; omega
   ·rw [List.length_map] at h1
    have hr':r.toNat<zs.length:=by omega
    have hzL2:H2 L=some (.lst (zs.map V.str)):=s2 L _ (Ne.symm hpL) hzL
    refine⟨L,_,r,r.toNat,V.str zs[r.toNat],rfl,rfl,hzL2,by omega,by omega,seqIx h0 (by rw [List.length_map]; omega),by simp [hr'],?_⟩
    refine⟨zs.eraseIdx r.toNat,ws++[zs[r.toNat]],?_,?_,by simp,?_,?_,?_,?_⟩
    ·rw [upd_same,erase_map]
    ·rw [List.length_eraseIdx_of_lt hr']; omega
    ·have pm:(zs[r.toNat]::zs.eraseIdx r.toNat).Perm zs:=perm_erase zs _ hr'
     have pm2:(ws++[zs[r.toNat]]++zs.eraseIdx r.toNat).Perm (ws++zs):=by
      rw [List.append_assoc]
      exact List.Perm.append_left ws pm
     exact(List.Perm.nodup_iff pm2).mpr hnd
    ·intro y hy
     refine hsub y ?_
     have pm:(zs[r.toNat]::zs.eraseIdx r.toNat).Perm zs:=perm_erase zs _ hr'
     have pm2:(ws++[zs[r.toNat]]++zs.eraseIdx r.toNat).Perm (ws++zs):=by
      rw [List.append_assoc]
      exact List.Perm.append_left ws pm
     exact(List.Perm.mem_iff pm2).mp hy
    ·obtain⟨a',b',c',e,r'⟩:=hp2
     exact⟨a',b',c',by rw [upd_ne hpL]; exact e,r'⟩
    ·intro b o n e
     rw [upd_ne (ne_of_none e hL)]
     exact s2 b o n (W.same b o n e)
  ·rintro ys H1 hy ⟨zs,ws,hzL,hzl,rfl,hnd,hsub,W⟩ D hD
   have hpD:p≠D:=by obtain⟨o,e⟩:=W.pot.some; exact ne_of_none e hD
   refine q D ws _ (W.same.free (Ne.symm hpD) hD) upd_same (by simpa using hy) (List.nodup_append.mp hnd).1 (fun y hy=>hsub y (List.mem_append_left _ hy)) ⟨W.pot.keep (same_new hD _),W.same.same (same_new hD _)⟩
end
end Few
set_option maxHeartbeats 1000000
namespace Few
open PySem L2
def isNm (z:Str):Prop:=1≤z.cps.toList.length∧z.cps.toList.length≤12∧∀ c∈z.cps.toList,97≤c∧c≤122
def sayWords:List Str:=["all","some","not","and","or"]
def isSg (z:Str):Prop:=isNm z∧¬ z∈sayWords
theorem str_len (z:Str):z.length=z.cps.toList.length:=by show z.cps.size=_; simp
theorem app_list (a b:Str):(a++b).cps.toList=a.cps.toList++b.cps.toList:=by
 show (a.cps++b.cps).toList=_
 simp
def abc:Str:=Str.ofString "abcdefghijklmnopqrstuvwxyz"
theorem inV_strs (z:Str):∀ ws:List Str,inV (V.str z) (ws.map V.str)=decide (z∈ws)
 | []=>rfl
 | x::r=>by
  have ih:=inV_strs z r
  have e:inV (V.str z) ((x::r).map V.str)=(eqV (V.str x) (V.str z)||inV (V.str z) (r.map V.str)):=rfl
  rw [e,ih]
  have e2:eqV (V.str x) (V.str z)=decide (x=z):=by
   first
    | rfl
    | (unfold eqV; rw [Bool.beq_eq_decide_eq])
    | (unfold eqV; simp)
  rw [e2]
  by_cases h:x=z
  ·subst h; simp
  ·have h':¬ z=x:=fun e=>h e.symm
   simp [h,h']
section
variable {P:Program} {w:World} {K:PySem.W.Frag} {mg:Str→Option Value} {base:Heap}
theorem Went.trans {p:Addr} {H H1 H2:Hp} (a:Went p H H1) (b:Went p H1 H2):Went p H H2:=⟨b.pot,a.same.trans b.same⟩
theorem Went.mk1 {p:Addr} {H H1 H2:Hp} (a:Went p H H1) (pt:PotAt H2 p) (s:SameX p H1 H2):Went p H H2:=⟨pt,a.same.trans s⟩
theorem Went.new {p:Addr} {H H1:Hp} {l:Addr} (a:Went p H H1) (h:H1 l=none) (o:HO):Went p H (upd H1 l o):=⟨a.pot.keep (same_new h o),a.same.same (same_new h o)⟩
theorem Went.put {p:Addr} {H H1:Hp} {l:Addr} (a:Went p H H1) (n:p≠l) (h:H l=none) (o:HO):Went p H (upd H1 l o):=
 ⟨let ⟨x,y,z,e,r⟩:=a.pot; ⟨x,y,z,by rw [upd_ne n]; exact e,r⟩,fun b u nb e=>by rw [upd_ne (ne_of_none e h)]; exact a.same b u nb e⟩
theorem Went.ne {p l:Addr} {H H1:Hp} (a:Went p H H1) (h:H1 l=none):p≠l:=by obtain⟨o,e⟩:=a.pot.some; exact ne_of_none e h
theorem Went.free {p l:Addr} {H H1:Hp} (a:Went p H H1) (h:H1 l=none):H l=none:=a.same.free (Ne.symm (a.ne h)) h
theorem Went.refl {p:Addr} {H:Hp} (h:PotAt H p):Went p H H:=⟨h,SameX.refl _ _⟩
theorem Went.at {p l:Addr} {H H1:Hp} {o:HO} (a:Went p H H1) (n:l≠p) (h:H l=some o):H1 l=some o:=a.same l o n h
end
def LT (H:Hp) (a:Addr) (xs:List V):Prop:=H a=some (.lst xs)∨H a=some (.tup xs)
theorem LT.mono {H H':Hp} {a:Addr} {xs:List V} (h:LT H a xs) (k:∀ o,H a=some o→H' a=some o):LT H' a xs:=h.elim (fun e=>.inl (k _ e)) fun e=>.inr (k _ e)
end Few
namespace L2
open PySem PySem.Spec PyProof.Rows
section
variable {X:Cx} {tg:Expr}
theorem PI.or {l:Expr} {wi wi':TI} (h:PI X tg l wi) (h':PI X tg l wi'):PI X tg l (fun σ H R=>wi σ H R∨wi' σ H R):=by
 intro pins s σ H R I q
 rcases q with q | q
 ·exact h pins s σ H R I q
 ·exact h' pins s σ H R I q
def iSeq (K:PySem.W.Frag) (tl:TE):TI:=fun σ H R=>iList K tl σ H R∨iTup K tl σ H R
theorem pi_seq {l:Expr} {tl:TE} (hl:PE X l tl):PI X tg l (iSeq X.K tl):=(pi_list hl).or (pi_tup hl)
theorem kit_list2 (K:PySem.W.Frag):PySem.W.kitAny K (.type "list") [.type "list",.type "tuple"]=some true:=rfl
theorem kit_tuple2 (K:PySem.W.Frag):PySem.W.kitAny K (.type "tuple") [.type "list",.type "tuple"]=some true:=rfl
theorem kit_str1 (K:PySem.W.Frag):PySem.W.kitOne K (.type "str") (.type "str")=some true:=rfl
theorem seq_mid {t u:TS} {D:Ends} {σ:St} {H:Hp} (Mid:St→Hp→Prop) (hu:∀ σ' H',Mid σ' H'→u D σ' H') (h:(∀ σ' H',Mid σ' H'→u D σ' H')→t {D with nx:=u D} σ H):tSeq t u D σ H:=h hu
end
end L2
namespace Few
open PySem L2
theorem LT.sq {K:PySem.W.Frag} {H:Hp} {a:Addr} {xs:List V} (h:LT H a xs):SqL K H a xs∨SqT K H a xs:=h.elim (fun e=>.inl (SqL.of e)) fun e=>.inr (SqT.of e)
theorem LT.isi2 {K:PySem.W.Frag} {H:Hp} {p:Addr} {xs:List V} (h:LT H p xs):∃ (t:Value),TyOf K H (.ref p) t∧PySem.W.kitAny K t [.type "list",.type "tuple"]=Option.some true:=by
 rcases h with h | h
 ·exact⟨_,.lst h,kit_list2 K⟩
 ·exact⟨_,.tup h,kit_tuple2 K⟩
structure Over (H:Hp) (a:Addr) (xs:List V) (J:It):Prop where
 go:∀ i H',(∀ o,H a=Option.some o→H' a=Option.some o)→i<xs.length→J.go i H'∧∀ x H'',J.yld i H' x H''→H''=H'∧xs[i]? = Option.some x
 stop:∀ H',(∀ o,H a=Option.some o→H' a=Option.some o)→J.stop xs.length H'
theorem LT.over {K:PySem.W.Frag} {H:Hp} {a:Addr} {xs:List V} {i:Nat} {σ:St} {R:It→Hp→Prop} (h:LT H a xs) (hv:σ[i]? = Option.some (Option.some (.ref a))) (k:∀ J,Over H a xs J→R J H):iSeq K (tVar i) σ H R:=by
 rcases h with h | h
 ·exact .inl ⟨_,hv,a,rfl,⟨_,SqL.of h⟩,k _ ⟨fun i H' kp hi=>go_list (SqL.of (kp _ h)) hi,fun H' kp=>stop_list (SqL.of (kp _ h))⟩⟩
 ·exact .inr ⟨_,hv,a,rfl,⟨_,SqT.of h⟩,k _ ⟨fun i H' kp hi=>go_tup (SqT.of (kp _ h)) hi,fun H' kp=>stop_tup (SqT.of (kp _ h))⟩⟩
theorem Over.loop {J:It} {H0:Hp} {a:Addr} {xs:List V} {g:TG} {tb:TS} {D:Ends} {σ:St} {H:Hp} (O:Over H0 a xs J) (Pv:Nat→St→Hp→Prop) (h0:Pv 0 σ H) (hl:∀ i σ H,i≤xs.length→Pv i σ H→∀ o,H0 a=Option.some o→H a=Option.some o)
  (hs:∀ i x σ H,xs[i]? = Option.some x→Pv i σ H→g x σ H fun σ2 H2=>tb {D with nx:=Pv (i+1),ct:=Pv (i+1),bk:=D.nx} σ2 H2) (hd:∀ σ H,Pv xs.length σ H→D.nx σ H) :
  ∃ W:Nat→Nat→St→Hp→Prop,(∃ m,W 0 m σ H)∧∀ i m σ H,W i m σ H→
   (J.stop i H∧D.nx σ H)∨(J.go i H∧∃ N:St→Hp→Prop,(∀ σ' H',N σ' H'→∃ m',m'<m∧W (i+1) m' σ' H')∧∀ x H',J.yld i H x H'→g x σ H' fun σ2 H2=>tb {D with nx:=N,ct:=N,bk:=D.nx} σ2 H2):=by
 refine⟨fun i m σ H=>m=xs.length-i∧i≤xs.length∧Pv i σ H,⟨xs.length,by simp,Nat.zero_le _,h0⟩,?_⟩
 rintro i m σ H ⟨rfl,hi,p⟩
 have q:=hl i σ H hi p
 by_cases hlt:i<xs.length
 ·obtain⟨g1,g2⟩:=O.go i H q hlt
  refine .inr ⟨g1,Pv (i+1),fun σ' H' p'=>⟨xs.length - (i+1),by omega,rfl,hlt,p'⟩,fun x H' y=>?_⟩
  obtain⟨e,y'⟩:=g2 x H' y
  subst e
  exact hs i x σ _ y' p
 ·have e:i=xs.length:=by omega
  subst e
  exact .inl ⟨O.stop H q,hd σ H p⟩
theorem Over.comp {J:It} {H0:Hp} {a:Addr} {xs:List V} {te:TE} {σ:St} {H:Hp} {Q:VK} (O:Over H0 a xs J) (Pv:Nat→List V→Hp→Prop) (h0:Pv 0 [] H) (hz:xs.length≤sizeLine) (hl:∀ i ys H,i≤xs.length→Pv i ys H→∀ o,H0 a=Option.some o→H a=Option.some o)
  (hs:∀ i x ys H,xs[i]? = Option.some x→ys.length=i→Pv i ys H→te (Option.some x::σ) H fun v H3=>Pv (i+1) (ys++[v]) H3)
  (hd:∀ ys H,ys.length=xs.length→Pv xs.length ys H→∀ D,H D=none→Q (.ref D) (upd H D (.lst ys))):CompOk 1 J (gName 0) te σ H Q:=
 comp_it1 xs.length Pv (fun i x=>xs[i]? = Option.some x) h0 hz (fun i ys H hi hy p=>O.go i H (hl i ys H (Nat.le_of_lt hi) p) hi) (fun ys H hy p=>O.stop H (hl _ ys H (Nat.le_refl _) p)) (fun i x ys H hi hx hy p=>hs i x ys H hx hy p) hd
theorem ifT {c A B:Prop} [Decidable c] (hc:c) (h:A):if c then A else B:=by rw [if_pos hc]; exact h
theorem ifF {c A B:Prop} [Decidable c] (hc:¬ c) (h:B):if c then A else B:=by rw [if_neg hc]; exact h
theorem LT.same {H H':Hp} {a:Addr} {xs:List V} (h:LT H a xs) (s:Same H H'):LT H' a xs:=h.mono fun o e=>s a o e
theorem inAbc:∀ i,i<26→(!(Builtin.Str.occurrences abc ⟨#[97+i]⟩ 0 abc.length 1).isEmpty)=true:=by decide +kernel
theorem inAbc' {c:Nat} (h0:97≤c) (h1:c≤122):(!(Builtin.Str.occurrences abc ⟨#[c]⟩ 0 abc.length 1).isEmpty)=true:=by
 have:=inAbc (c-97) (by omega)
 rwa [show 97+(c-97)=c by omega] at this
structure Gs (K:PySem.W.Frag) (mg:Str→Option Value):Prop where
 letters:∃ u,mg "LETTERS"=some u∧RelV (.str abc) u
 longest:∃ u,mg "LONGEST_NAME"=some u∧RelV (.int 12) u
 mkinds:∃ u,mg "MOST_KINDS"=some u∧RelV (.int 4) u
 msigns:∃ u,mg "MOST_SIGNS"=some u∧RelV (.int 8) u
 mplaces:∃ u,mg "MOST_PLACES"=some u∧RelV (.int 2) u
 words:∃ a,mg "WORDS_OF_SAYINGS"=some (.ref a)∧∀ H,SqT K H a (sayWords.map V.str)
theorem flat_strs:∀ ws:List Str,(ws.map V.str).all flatV=true
 | []=>rfl
 | x::r=>by
  show (flatV (V.str x)&&(r.map V.str).all flatV)=true
  rw [flat_strs r]; rfl
theorem n_tk:¬ (("kept_ties":Str)="kept_kinds"):=by decide +kernel
theorem n_fk:¬ (("kept_functions":Str)="kept_kinds"):=by decide +kernel
theorem n_ft:¬ (("kept_functions":Str)="kept_ties"):=by decide +kernel
def flK (kt:Addr):List (Str×V):=putF "kept_kinds" (.ref kt) []
def flT (kt tt:Addr):List (Str×V):=putF "kept_ties" (.ref tt) (flK kt)
def flF (kt tt ft:Addr):List (Str×V):=putF "kept_functions" (.ref ft) (flT kt tt)
theorem flK_kinds (kt:Addr):(flK kt).lookup ("kept_kinds":Str)=some (.ref kt):=by unfold flK; rw [lookup_putF,if_pos rfl]
theorem flT_kinds (kt tt:Addr):(flT kt tt).lookup ("kept_kinds":Str)=some (.ref kt):=by unfold flT; rw [lookup_putF,if_neg (fun z=>n_tk z.symm)]; exact flK_kinds kt
theorem flT_ties (kt tt:Addr):(flT kt tt).lookup ("kept_ties":Str)=some (.ref tt):=by unfold flT; rw [lookup_putF,if_pos rfl]
theorem flF_kinds (kt tt ft:Addr):(flF kt tt ft).lookup ("kept_kinds":Str)=some (.ref kt):=by unfold flF; rw [lookup_putF,if_neg (fun z=>n_fk z.symm)]; exact flT_kinds kt tt
theorem flF_ties (kt tt ft:Addr):(flF kt tt ft).lookup ("kept_ties":Str)=some (.ref tt):=by unfold flF; rw [lookup_putF,if_neg (fun z=>n_ft z.symm)]; exact flT_ties kt tt
theorem flF_funs (kt tt ft:Addr):(flF kt tt ft).lookup ("kept_functions":Str)=some (.ref ft):=by unfold flF; rw [lookup_putF,if_pos rfl]
theorem flK_len (kt:Addr):(flK kt).length<1000:=Nat.lt_of_le_of_lt (length_putF _ _ _) (by decide)
theorem flT_len (kt tt:Addr):(flT kt tt).length<1000:=by
 have h1:=length_putF ("kept_ties":Str) (.ref tt) (flK kt)
 have h2:=length_putF ("kept_kinds":Str) (.ref kt) []
 unfold flT flK at *
 simp only [List.length_nil] at h2
 omega
theorem fl_no {kt tt ft:Addr} {m:Str} (h1:¬ m="kept_functions") (h2:¬ m="kept_ties") (h3:¬ m="kept_kinds"):(flF kt tt ft).lookup m=none:=by
 unfold flF flT flK
 rw [lookup_putF,if_neg h1,lookup_putF,if_neg h2,lookup_putF,if_neg h3]
 rfl
abbrev Any:Addr→Prop:=fun _=>True
def Tups (H H':Hp):Prop:=∀ a xs,H a=some (.tup xs)→H' a=some (.tup xs)
theorem Same.tups {H H':Hp} (s:Same H H'):Tups H H':=fun a xs e=>s a _ e
theorem cat_of {K:PySem.W.Frag} {H:Hp} {a b:Addr} {xs ys:List V} {Q:VK} (ha:H a=some (.tup xs)) (hb:H b=some (.tup ys)) (hl:xs.length+ys.length≤sizeLine) (q:∀ p H',H' p=some (.tup (xs++ys))→Same H H'→Q (.ref p) H'):rCatTT K (.ref a) (.ref b) H Q:=by
 refine⟨a,b,xs,ys,rfl,rfl,SqT.of ha,SqT.of hb,hl,fun e=>?_,fun _ e=>?_,fun _ _ p hp=>q p _ upd_same (same_new hp _)⟩
 ·subst e; exact q b H hb (Same.refl _)
 ·subst e; exact q a H (by rw [List.append_nil]; exact ha) (Same.refl _)
structure ClS (K:PySem.W.Frag) (C:Addr):Prop where
 cl:Cls K C
 nK:NoAttr K C "kept_kinds"
 nT:NoAttr K C "kept_ties"
 nF:NoAttr K C "kept_functions"
structure TieR where
 nm:Str
 ps:List Str
structure FunR where
 nm:Str
 ps:List Str
 kd:Str
def strsD (ws:List Str):List PyData:=ws.map PyData.str
def tieL (t:TieR):PyData:=.tuple [.str t.nm,.list (strsD t.ps)]
def funL (t:FunR):PyData:=.tuple [.str t.nm,.list (strsD t.ps),.str t.kd]
def bookL (ks:List Str) (ts:List TieR) (fs:List FunR):PyData:=.tuple [.list (strsD ks),.list (ts.map tieL),.list (fs.map funL)]
structure BookOk (ks:List Str) (ts:List TieR) (fs:List FunR):Prop where
 kn:ks.Nodup
 k1:1≤ks.length
 k4:ks.length≤4
 kn2:∀ k∈ks,isNm k
 sn:(ts.map (·.nm)++fs.map (·.nm)).Nodup
 sl:ts.length+fs.length≤8
 tn:∀ t∈ts,isSg t.nm∧t.ps.length≤2∧∀ k∈t.ps,k∈ks
 fn:∀ t∈fs,isSg t.nm∧t.ps.length≤2∧(∀ k∈t.ps,k∈ks)∧t.kd∈ks
def menuK:List Str:=["a","b","c","all","not","x","kind","size","r","f","abcdefghijkl"]
def menuS:List Str:=["r","s","q","f","g","c","x","say","holds","none","tie","next","zyxwvutsrqpo"]
theorem menuK_nm:∀ k∈menuK,isNm k:=by unfold isNm; decide +kernel
theorem menuS_sg:∀ k∈menuS,isSg k:=by unfold isSg isNm; decide +kernel
theorem menuK_nd:menuK.Nodup:=by decide +kernel
theorem menuS_nd:menuS.Nodup:=by decide +kernel
theorem zcq:LD "_law_functions":=by decide +kernel
theorem zcr:LS "_law_functions":=by decide +kernel
theorem zcs:LD "_law_kinds":=by decide +kernel
theorem zct:LS "_law_kinds":=by decide +kernel
theorem zcu:LD "_law_most_kinds":=by decide +kernel
theorem zcv:LS "_law_most_kinds":=by decide +kernel
theorem zcw:LD "_law_most_signs":=by decide +kernel
theorem zcx:LS "_law_most_signs":=by decide +kernel
theorem zcy:LD "_law_name":=by decide +kernel
theorem zcz:LS "_law_name":=by decide +kernel
theorem zc0:LD "_law_names":=by decide +kernel
theorem zc1:LS "_law_names":=by decide +kernel
theorem zc2:LD "_law_places":=by decide +kernel
theorem zc3:LS "_law_places":=by decide +kernel
theorem zc4:LD "_law_ties":=by decide +kernel
theorem zc5:LS "_law_ties":=by decide +kernel
theorem zc6:LD "_law_unlike":=by decide +kernel
section
variable {P:Program} {w:World} {K:PySem.W.Frag} {mg:Str→Option Value} {base:Heap}
abbrev s_law_book:Stmt:=top 42
theorem zc7:FnScope ["_law_pot_here","_law_most_kinds","_law_most_signs","_law_menu","_law_kinds","_law_names","_law_ties","_law_functions","_law_name","_law_places"] ["_law_pot_here","_law_most_kinds","_law_most_signs"] (defScope s_law_book):=⟨rfl,rfl,rfl,by decide +kernel,rfl,by decide +kernel,by decide +kernel⟩
theorem zc8:LN .globalImplicit s_law_book "_law_draw":=by decide +kernel
theorem zc9:LN .local s_law_book "_law_functions":=by decide +kernel
theorem zda:LN .cell s_law_book "_law_kinds":=by decide +kernel
theorem zdb:LN .local s_law_book "_law_menu":=by decide +kernel
theorem zdc:LN .local s_law_book "_law_most_kinds":=by decide +kernel
theorem zdd:LN .local s_law_book "_law_most_signs":=by decide +kernel
theorem zde:LN .local s_law_book "_law_name":=by decide +kernel
theorem zdf:LN .local s_law_book "_law_names":=by decide +kernel
theorem zdg:LN .local s_law_book "_law_places":=by decide +kernel
theorem zdh:LN .cell s_law_book "_law_pot_here":=by decide +kernel
theorem zdi:LN .local s_law_book "_law_ties":=by decide +kernel
theorem zdj:LN .globalImplicit s_law_book "_law_unlike":=by decide +kernel
theorem zdk:LN .globalImplicit s_law_book "len":=by decide +kernel
theorem zdl:LN .globalImplicit s_law_book "range":=by decide +kernel
abbrev QS1:Scope:={kind:=PySem.ScopeKind.function,names:=[ (PySem.Str.ofString ".0",PySem.NameKind.local),(PySem.Str.ofString "_law_k",PySem.NameKind.local),(PySem.Str.ofString "_law_draw",PySem.NameKind.globalImplicit),(PySem.Str.ofString "len",PySem.NameKind.globalImplicit),(PySem.Str.ofString "_law_kinds",PySem.NameKind.free),(PySem.Str.ofString "_law_pot_here",PySem.NameKind.free)],isGenerator:=false,isCoroutine:=false,more:=[]:PySem.Scope}
theorem zdm:CompSc 1 ["_law_k","_law_pot_here","_law_most_kinds","_law_most_signs","_law_menu","_law_kinds","_law_names","_law_ties","_law_functions","_law_name","_law_places"] ["_law_pot_here","_law_most_kinds","_law_most_signs","_law_menu","_law_kinds","_law_names","_law_ties","_law_functions","_law_name","_law_places"] (defScope s_law_book) QS1:=⟨rfl,by decide +kernel,by decide +kernel,by decide +kernel,by decide +kernel,rfl,by decide +kernel⟩
theorem zdn:LC .globalImplicit QS1 "_law_draw":=by decide +kernel
theorem zdo:LC .local QS1 "_law_k":=by decide +kernel
theorem zdp:LC .free QS1 "_law_kinds":=by decide +kernel
theorem zdq:LC .free QS1 "_law_pot_here":=by decide +kernel
theorem zdr:LC .globalImplicit QS1 "len":=by decide +kernel
def spBook:Sp:=fun vs H Q _=>∃ (p:Addr) (mk ms:Nat),vs=[.ref p,.int mk,.int ms]∧PotAt H p∧1≤mk∧mk≤4∧ms≤8∧
 ∀ v H' ks ts fs,RdV (fun a=>H a=none) H' v (bookL ks ts fs)→BookOk ks ts fs→ks.length≤mk→ts.length+fs.length≤ms→Went p H H'→Q v H'
theorem ok_book (F:FunAt K mg "_law_book" s_law_book ["_law_pot_here","_law_most_kinds","_law_most_signs"]) (Z:Bl mg) (D_law_draw:Def P w K mg base "_law_draw" 1 ["_law_pot_here","_law_many"] spDraw)
  (D_law_unlike:Def P w K mg base "_law_unlike" 2 ["_law_pot_here","_law_many","_law_menu"] (spUnlike (K:=K))) :
  Def P w K mg base "_law_book" 3 ["_law_pot_here","_law_most_kinds","_law_most_signs"] spBook:=by
 have SC:=zc7
 refine F.mk' (k:=2) zc7 (fun vs H Q E h=>?_) (fun f cdv A outer s H vs Q E hr h=>?_)
 ·obtain⟨p,mk,ms,rfl,_⟩:=h
  rfl
 ·obtain⟨p,mk,ms,rfl,hp,hm1,hm4,hms,q⟩:=h
  refine'⟨_,?derivation,?_⟩
  case derivation=>refine' pss_cons ?Aa ?Ba;(case Aa=>refine' ps_set (i:=3) (x:=Str.ofString "_law_menu") ?Ca ?Da ?Ea ?Fa ?Ga ?Ha;(case Ca=>exact SC.nd);(case Da=>exact rfl);(case Ea=>exact(Or.inl zdb));(case Fa=>refine' pe_lst ?Ia;case Ia=>refine' pa_strs (by repeat constructor));(case Ga=>rfl);case Ha=>exact .inl rfl);case Ba=>refine' pss_cons ?Ja ?Ka;(case Ja=>refine' ps_set (i:=4) (x:=Str.ofString "_law_kinds") ?La ?Ma ?Na ?Oa ?Pa ?Qa;(case La=>exact SC.nd);(case Ma=>exact rfl);(case Na=>exact(Or.inr zda));(case Oa=>refine' pe_def (hdb:=zc6) D_law_unlike (hr.mono (by decide)) zdj ?Ra rfl rfl;case Ra=>refine' pa_cons (pq 0 (visC zdh) zbn zbo) ?Sa ?Ta;(case Sa=>refine' pa_cons ?Ua ?Va ?Wa;(case Ua=>refine' pe_op op_add ?Xa ?Ya;(case Xa=>exact pe_int);case Ya=>refine' pe_def (hdb:=zbe) D_law_draw (hr.mono (by decide)) zc8 ?Za rfl rfl;case Za=>refine' pa_cons (pq 0 (visC zdh) zbn zbo) ?Ab ?Bb;(case Ab=>refine' pa_cons (pq 1 (visL zdc) zcu zcv) pa_nil ?Cb;case Cb=>rfl);case Bb=>rfl);(case Va=>refine' pa_cons (pq 3 (visL zdb) zbl zbm) pa_nil ?Db;case Db=>rfl);case Wa=>rfl);case Ta=>rfl);(case Pa=>rfl);case Qa=>exact .inl rfl);case Ka=>refine' pss_cons ?Eb ?Fb;(case Eb=>refine' ps_set (i:=3) (x:=Str.ofString "_law_menu") ?Gb ?Hb ?Ib ?Jb ?Kb ?Lb;(case Gb=>exact SC.nd);(case Hb=>exact rfl);(case Ib=>exact(Or.inl zdb));(case Jb=>refine' pe_lst ?Mb;case Mb=>refine' pa_strs (by repeat constructor));(case Kb=>rfl);case Lb=>exact .inl rfl);case Fb=>refine' pss_cons ?Nb ?Ob;(case Nb=>refine' ps_set (i:=5) (x:=Str.ofString "_law_names") ?Pb ?Qb ?Rb ?Sb ?Tb ?Ub;(case Pb=>exact SC.nd);(case Qb=>exact rfl);(case Rb=>exact(Or.inl zdf));(case Sb=>refine' pe_def (hdb:=zc6) D_law_unlike (hr.mono (by decide)) zdj ?Vb rfl rfl;case Vb=>refine' pa_cons (pq 0 (visC zdh) zbn zbo) ?Wb ?Xb;(case Wb=>refine' pa_cons ?Yb ?Zb ?Ac;(case Yb=>refine' pe_def (hdb:=zbe) D_law_draw (hr.mono (by decide)) zc8 ?Bc rfl rfl;case Bc=>refine' pa_cons (pq 0 (visC zdh) zbn zbo) ?Cc ?Dc;(case Cc=>refine' pa_cons ?Ec pa_nil ?Fc;(case Ec=>refine' pe_op op_add (pq 2 (visL zdd) zcw zcx) ?Gc;case Gc=>exact pe_int);case Fc=>rfl);case Dc=>rfl);(case Zb=>refine' pa_cons (pq 3 (visL zdb) zbl zbm) pa_nil ?Hc;case Hc=>rfl);case Ac=>rfl);case Xb=>rfl);(case Tb=>rfl);case Ub=>exact .inl rfl);case Ob=>refine' pss_cons ?Ic ?Jc;(case Ic=>refine' ps_set (i:=6) (x:=Str.ofString "_law_ties") ?Kc ?Lc ?Mc ?Nc ?Oc ?Pc;(case Kc=>exact SC.nd);(case Lc=>exact rfl);(case Mc=>exact(Or.inl zdi));(case Nc=>refine' pe_lst pa_nil);(case Oc=>rfl);case Pc=>exact .inl rfl);case Jc=>refine' pss_cons ?Qc ?Rc;(case Qc=>refine' ps_set (i:=7) (x:=Str.ofString "_law_functions") ?Sc ?Tc ?Uc ?Vc ?Wc ?Xc;(case Sc=>exact SC.nd);(case Tc=>exact rfl);(case Uc=>exact(Or.inl zc9));(case Vc=>refine' pe_lst pa_nil);(case Wc=>rfl);case Xc=>exact .inl rfl);case Rc=>refine' pss_cons ?Yc ?Zc;(case Yc=>refine' ps_for PassesOwn.never rfl ?Ad ?Bd ?Cd ?Dd;(case Ad=>refine' pi_list (pq 5 (visL zdf) zc0 zc1));(case Bd=>refine' pg_name (i:=8) (x:=Str.ofString "_law_name") SC.nd rfl (Or.inl zde) (.inl rfl));(case Cd=>refine' pss_cons ?Ed ?Fd;(case Ed=>refine' ps_setComp (i:=9) (x:=Str.ofString "_law_places") SC.nd ?Gd (Or.inl zdg) ?Hd noxe ?Id zdm.at ?Jd ?Kd ?Ld ?Md ?Nd;(case Gd=>exact rfl);(case Hd=>exact rfl);(case Id=>exact rfl);(case Jd=>refine' pi_range1 zdl Z.n_range ?Od rfl;case Od=>refine' pa_cons ?Pd pa_nil ?Qd;(case Pd=>refine' pe_ix ix_list ?Rd ?Sd ?Td;(case Rd=>refine' pe_lst ?Ud;case Ud=>refine' pa_cons ?Vd ?Wd ?Xd;(case Vd=>exact pe_int);(case Wd=>refine' pa_cons ?Yd ?Zd ?Ae;(case Yd=>exact pe_int);(case Zd=>refine' pa_cons ?Be ?Ce ?De;(case Be=>exact pe_int);(case Ce=>refine' pa_cons ?Ee pa_nil ?Fe;(case Ee=>exact pe_int);case Fe=>rfl);case De=>rfl);case Ae=>rfl);case Xd=>rfl);(case Sd=>refine' pe_def (hdb:=zbe) D_law_draw (hr.mono (by decide)) zc8 ?Ge rfl rfl;case Ge=>refine' pa_cons (pq 0 (visC zdh) zbn zbo) ?He ?Ie;(case He=>refine' pa_cons ?Je pa_nil ?Ke;(case Je=>exact pe_int);case Ke=>rfl);case Ie=>rfl);case Td=>intro _ _;exact rfl);case Qd=>rfl);(case Kd=>intro _ _ _ _ _;refine' pg_name (i:=0) zdm.nd rfl (locO zdo) (.inr (lookup_relabel_local zdo)));(case Ld=>intro _ _ _ _ _;refine' pe_ix ix_list (pq 5 (visF zdp) zcs zct) ?Le ?Me;(case Le=>refine' pe_def (hdb:=zbe) D_law_draw (hr.mono (by decide)) (glO zdn) ?Ne rfl rfl;case Ne=>refine' pa_cons (pq 1 (visF zdq) zbn zbo) ?Oe ?Pe;(case Oe=>refine' pa_cons ?Qe pa_nil ?Re;(case Qe=>refine' pe_callB (hn:=zbw) (hdb:=zbv) call_len_seq (glO zdr) Z.n_len bt_len ?Se rfl rfl;case Se=>refine' pa_cons (pq 5 (visF zdp) zcs zct) pa_nil ?Te;case Te=>rfl);case Re=>rfl);case Pe=>rfl);case Me=>intro _ _;exact rfl);(case Md=>intro _; rfl);case Nd=>exact .inl rfl);case Fd=>refine' pss_one ?Ue;case Ue=>refine' ps_if ?Ve ?We ?Xe;(case Ve=>refine' pt_cmpR op_lt ?Ye ?Ze (nomark _);(case Ye=>refine' pe_def (hdb:=zbe) D_law_draw (hr.mono (by decide)) zc8 ?Af rfl rfl;case Af=>refine' pa_cons (pq 0 (visC zdh) zbn zbo) ?Bf ?Cf;(case Bf=>refine' pa_cons ?Df pa_nil ?Ef;(case Df=>exact pe_int);case Ef=>rfl);case Cf=>rfl);case Ze=>exact pe_int);(case We=>refine' pss_one ?Ff;case Ff=>refine' ps_expr ?Gf rfl;case Gf=>refine' pe_bm PySem.F.plainAttrs_list PySem.F.slot_list_append PySem.F.type_list_append mt_append (pq 6 (visL zdi) zc4 zc5) ?Hf rfl rfl rfl rfl rfl;case Hf=>refine' pa_cons ?If pa_nil ?Jf;(case If=>refine' pe_tup ?Kf;case Kf=>refine' pa_cons (pq 8 (visL zde) zcy zcz) ?Lf ?Mf;(case Lf=>refine' pa_cons (pq 9 (visL zdg) zc2 zc3) pa_nil ?Nf;case Nf=>rfl);case Mf=>rfl);case Jf=>rfl);case Xe=>refine' pss_one ?Of;case Of=>refine' ps_expr ?Pf rfl;case Pf=>refine' pe_bm PySem.F.plainAttrs_list PySem.F.slot_list_append PySem.F.type_list_append mt_append (pq 7 (visL zc9) zcq zcr) ?Qf rfl rfl rfl rfl rfl;case Qf=>refine' pa_cons ?Rf pa_nil ?Sf;(case Rf=>refine' pe_tup ?Tf;case Tf=>refine' pa_cons (pq 8 (visL zde) zcy zcz) ?Uf ?Vf;(case Uf=>refine' pa_cons (pq 9 (visL zdg) zc2 zc3) ?Wf ?Xf;(case Wf=>refine' pa_cons ?Yf pa_nil ?Zf;(case Yf=>refine' pe_ix ix_list (pq 4 (visC zda) zcs zct) ?Ag ?Bg;(case Ag=>refine' pe_def (hdb:=zbe) D_law_draw (hr.mono (by decide)) zc8 ?Cg rfl rfl;case Cg=>refine' pa_cons (pq 0 (visC zdh) zbn zbo) ?Dg ?Eg;(case Dg=>refine' pa_cons ?Fg pa_nil ?Gg;(case Fg=>refine' pe_callB (hn:=zbw) (hdb:=zbv) call_len_seq zdk Z.n_len bt_len ?Hg rfl rfl;case Hg=>refine' pa_cons (pq 4 (visC zda) zcs zct) pa_nil ?Ig;case Ig=>rfl);case Gg=>rfl);case Eg=>rfl);case Bg=>intro _ _;exact rfl);case Zf=>rfl);case Xf=>rfl);case Vf=>rfl);case Sf=>rfl);case Dd=>intro _; rfl);case Zc=>refine' pss_one ?Jg;case Jg=>refine' ps_ret ?Kg;case Kg=>refine' pe_tup ?Lg;case Lg=>refine' pa_cons (pq 4 (visC zda) zcs zct) ?Mg ?Ng;(case Mg=>refine' pa_cons (pq 6 (visL zdi) zc4 zc5) ?Og ?Pg;(case Og=>refine' pa_cons (pq 7 (visL zc9) zcq zcr) pa_nil ?Qg;case Qg=>rfl);case Pg=>rfl);case Ng=>rfl
  refine⟨by show 11≤sizeLine; decide,fun M1 hM1=>?_⟩
  have W1:=(Went.refl hp).new hM1 (.lst (menuK.map V.str))
  refine⟨_,rfl,_,rfl,_,rfl,p,_,rfl,W1.pot,by omega,by omega,fun r1 H1 a0 a1 hp1 s1=>?_⟩
  have W2:=W1.mk1 hp1 s1
  have hM1':H1 M1=some (.lst (menuK.map V.str)):=s1 M1 _ (Ne.symm ((Went.refl hp).ne hM1)) upd_same
  refine⟨_,_,rfl,rfl,_,rfl,p,M1,(1+r1).toNat,menuK,?_,hp1,SqL.of hM1',?_,by decide,menuK_nd,fun kA ks H2 hkA hkA2 hkl hknd hkin W3=>?_⟩
  ·show [V.ref p,V.int (1+r1),V.ref M1]=_
   rw [Int.toNat_of_nonneg (by omega)]
  ·show (1+r1).toNat≤11
   omega
  have W4:=W2.trans W3
  have kfree:H kA=none:=W2.free hkA
  have npk:kA≠p:=by rintro rfl; obtain⟨o,e⟩:=hp.some; rw [kfree] at e; cases e
  have hknm:∀ k∈ks,isNm k:=fun k hk=>menuK_nm k (hkin k hk)
  generalize hH3:H2=H3 at *
  have hk3:=hkA2
  have W5:=W4
  refine⟨by show 13≤sizeLine; decide,fun M2 hM2=>?_⟩
  have W6:=W5.new hM2 (.lst (menuS.map V.str))
  have hk6:(upd H3 M2 (.lst (menuS.map V.str))) kA=some (.lst (ks.map V.str)):=by rw [upd_ne (ne_of_none hk3 hM2)]; exact hk3
  refine⟨_,rfl,_,rfl,_,rfl,_,_,rfl,rfl,p,_,rfl,W6.pot,by omega,by omega,fun r3 H7 c0 c1 hp7 s7=>?_⟩
  have W7:=W6.mk1 hp7 s7
  have hM7:H7 M2=some (.lst (menuS.map V.str)):=s7 M2 _ (Ne.symm (W5.ne hM2)) upd_same
  have hk7:H7 kA=some (.lst (ks.map V.str)):=s7 kA _ npk hk6
  refine⟨_,rfl,p,M2,r3.toNat,menuS,?_,hp7,SqL.of hM7,?_,by decide,menuS_nd,fun nA ns H8 hnA hnA2 hnl hnnd hnin W8=>?_⟩
  ·show [V.ref p,V.int r3,V.ref M2]=_
   rw [Int.toNat_of_nonneg c0]
  ·show r3.toNat≤13
   omega
  have W9:=W7.trans W8
  have nfree:H nA=none:=W7.free hnA
  have npn:nA≠p:=by rintro rfl; obtain⟨o,e⟩:=hp.some; rw [nfree] at e; cases e
  have hk8:H8 kA=some (.lst (ks.map V.str)):=W8.at npk hk7
  have hnsg:∀ k∈ns,isSg k:=fun k hk=>menuS_sg k (hnin k hk)
  have hn9:=hnA2
  have hk9:=hk8
  have W10:=W9
  refine⟨by show 0≤sizeLine; decide,fun tA htA=>?_⟩
  have W11:=W10.new htA (.lst [])
  refine⟨by show 0≤sizeLine; decide,fun fA hfA=>?_⟩
  have W12:=W11.new hfA (.lst [])
  have tfree:H tA=none:=W10.free htA
  have ffree:H fA=none:=W11.free hfA
  have ntf:tA≠fA:=ne_of_none upd_same hfA
  have hpt:p≠tA:=W10.ne htA
  have hpf:p≠fA:=W11.ne hfA
  have nkt:kA≠tA:=ne_of_none hk9 htA
  have nkf:kA≠fA:=ne_of_none (by rw [upd_ne nkt]; exact hk9) hfA
  have nnt:nA≠tA:=ne_of_none hn9 htA
  have nnf:nA≠fA:=ne_of_none (by rw [upd_ne nnt]; exact hn9) hfA
  have pne:∀ a,H a=none→a≠p:=fun a e=>by rintro rfl; obtain⟨o,e2⟩:=hp.some; rw [e] at e2; cases e2
  have keepR:∀ {H2 H3:Hp} {xs:List V} {ds:List PyData},SameX p H2 H3→RdA (fun a=>H a=none∧a≠tA∧a≠fA) H2 xs ds→RdA (fun a=>H a=none∧a≠tA∧a≠fA) H3 xs ds:=fun s r=>r.mono (fun _ z=>z) fun a o z e=>s a o (pne a z.1) e
  refine⟨_,rfl,nA,rfl,⟨_,SqL.of (by rw [upd_ne nnf,upd_ne nnt]; exact hn9)⟩,for_list (K:=K) (a:=nA) (xs:=ns.map V.str) (fun i σ H2=>∃ (ts:List TieR) (fs:List FunR) (tv fv:List V) (v8 v9:Option V),σ=[some (.ref p),some (.int mk),some (.int ms),some (.ref M2),some (.ref kA),some (.ref nA),some (.ref tA),some (.ref fA),v8,v9]∧
    H2 tA=some (.lst tv)∧RdA (fun a=>H a=none∧a≠tA∧a≠fA) H2 tv (ts.map tieL)∧H2 fA=some (.lst fv)∧RdA (fun a=>H a=none∧a≠tA∧a≠fA) H2 fv (fs.map funL)∧
    (ts.map (·.nm)++fs.map (·.nm)).Perm (ns.take i)∧(∀ t∈ts,isSg t.nm∧t.ps.length≤2∧∀ k∈t.ps,k∈ks)∧(∀ t∈fs,isSg t.nm∧t.ps.length≤2∧(∀ k∈t.ps,k∈ks)∧t.kd∈ks)∧H2 kA=some (.lst (ks.map V.str))∧H2 nA=some (.lst (ns.map V.str))∧Went p H H2)
   ⟨[],[],[],[],none,none,rfl,(by rw [upd_ne ntf]; exact upd_same),.nil,upd_same,.nil,(by simp),(fun _ h=>nomatch h),(fun _ h=>nomatch h),(by rw [upd_ne nkf,upd_ne nkt]; exact hk9),(by rw [upd_ne nnf,upd_ne nnt]; exact hn9),W12⟩
   (fun i σ H2 _ ⟨_,_,_,_,_,_,_,_,_,_,_,_,_,_,_,z,_⟩=>SqL.of z) ?_ ?_⟩
  ·rintro i y σ H2 hi ⟨ts,fs,tv,fv,v8,v9,rfl,hT,rT,hF,rF,hperm,okT,okF,hK,hN,W⟩
   have hil:i<ns.length:=by have:=(List.getElem?_eq_some_iff.mp hi).1; simpa using this
   obtain rfl:y=V.str ns[i]:=by
    have : (ns.map V.str)[i]? = some (V.str ns[i]):=by simp [hil]
    rw [this] at hi; exact(Option.some.inj hi).symm
   have lenT:ts.length+fs.length=i:=by
    have:=hperm.length_eq
    simp only [List.length_append,List.length_map,List.length_take] at this
    omega
   have tvl:tv.length=ts.length:=by rw [rT.length,List.length_map]
   have fvl:fv.length=fs.length:=by rw [rF.length,List.length_map]
   have n8:ns.length≤8:=by omega
   refine⟨by show 4≤sizeLine; decide,fun L hL=>?_⟩
   have V1:=(Went.refl W.pot).new hL (.lst [.int 0,.int 1,.int 1,.int 2])
   refine⟨_,rfl,p,_,rfl,V1.pot,by decide,by decide,fun r5 H10 e0 e1 hp10 s10=>?_⟩
   have V2:=V1.mk1 hp10 s10
   have hL10:H10 L=some (.lst [.int 0,.int 1,.int 1,.int 2]):=s10 L _ (Ne.symm ((Went.refl W.pot).ne hL)) upd_same
   obtain⟨c,hc,hc0,hc2⟩:∃ c:Int,atI [V.int 0,V.int 1,V.int 1,V.int 2] r5=some (V.int c)∧0≤c∧c≤2:=by
    have h4:r5=0∨r5=1∨r5=2∨r5=3:=by omega
    rcases h4 with rfl | rfl | rfl | rfl
    ·exact⟨0,rfl,by decide,by decide⟩
    ·exact⟨1,rfl,by decide,by decide⟩
    ·exact⟨1,rfl,by decide,by decide⟩
    ·exact⟨2,rfl,by decide,by decide⟩
   refine⟨L,_,r5,_,rfl,rfl,SqL.of hL10,hc,c,rfl,by omega,by omega,?_⟩
   intro cl C ex sc Hc
   refine comp_it1 c.toNat (fun j ys H11=>∃ us:List Str,ys=us.map V.str∧(∀ u∈us,u∈ks)∧Went p H2 H11) (fun _ _=>True)
    ⟨[],rfl,(fun _ h=>nomatch h),V2⟩ (Nat.le_trans (show c.toNat≤100 by omega) (show 100≤sizeLine by decide)) (fun i ys H1 hi _ _=>⟨hi,fun x H' y=>⟨y.1,trivial⟩⟩) (fun _ _ _ _=>Nat.le_refl _) ?_ ?_
   ·rintro j x ys H11 hj _ hy ⟨us,rfl,hus,V3⟩
    have hK11:H11 kA=some (.lst (ks.map V.str)):=V3.at npk hK
    refine⟨_,rfl,_,rfl,_,rfl,kA,_,rfl,.inl (SqL.of hK11),p,_,rfl,V3.pot,by rw [List.length_map]; omega,by rw [List.length_map]; omega,fun r6 H12 g0 g1 hp12 s12=>?_⟩
    rw [List.length_map] at g1
    have hr6:r6.toNat<ks.length:=by omega
    refine⟨kA,_,r6,V.str ks[r6.toNat],rfl,rfl,SqL.of (s12 kA _ npk hK11),atI_int g0 (by simp [hr6]),us++[ks[r6.toNat]],by simp,fun u hu=>?_,V3.mk1 hp12 s12⟩
    rcases List.mem_append.mp hu with hu | hu
    ·exact hus u hu
    ·rw [List.mem_singleton.mp hu]; exact List.getElem_mem hr6
   rintro ys H11 hy ⟨us,rfl,hus,V3⟩ D hD
   have hul:us.length≤2:=by
    have : us.length=c.toNat:=by simpa using hy
    omega
   have V4:=V3.new hD (.lst (us.map V.str))
   have W4:Went p H (upd H11 D (.lst (us.map V.str))):=⟨V4.pot,W.same.trans V4.same⟩
   refine⟨_,rfl,p,_,rfl,V4.pot,by decide,by decide,fun r7 H13 k0 k1 hp13 s13=>?_⟩
   refine⟨_,_,rfl,rfl,_,rfl,?_⟩
   have V5:=V4.mk1 hp13 s13
   have W5:Went p H H13:=⟨hp13,W4.same.trans s13⟩
   have hT13:H13 tA=some (.lst tv):=V5.at (Ne.symm hpt) hT
   have hF13:H13 fA=some (.lst fv):=V5.at (Ne.symm hpf) hF
   have hK13:H13 kA=some (.lst (ks.map V.str)):=V5.at npk hK
   have hN13:H13 nA=some (.lst (ns.map V.str)):=V5.at npn hN
   have rT13:=keepR V5.same rT
   have rF13:=keepR V5.same rF
   have nDp:D≠p:=Ne.symm (V3.ne hD)
   have hD13:H13 D=some (.lst (us.map V.str)):=s13 D _ nDp upd_same
   have hDfree:H D=none:=(show Went p H H11 from ⟨V3.pot,W.same.trans V3.same⟩).free hD
   have nDt:D≠tA:=by rintro rfl; rw [V3.at (Ne.symm hpt) hT] at hD; cases hD
   have nDf:D≠fA:=by rintro rfl; rw [V3.at (Ne.symm hpf) hF] at hD; cases hD
   have ptake:ns.take (i+1)=ns.take i++[ns[i]]:=by rw [List.take_succ]; simp [hil]
   refine ite2 (fun _=>?_) (fun _=>?_)
   ·
    refine⟨_,rfl,.inl ⟨rfl,_,SqL.of hT13⟩,_,rfl,_,rfl,by show 2≤sizeLine; decide,fun T hTn=>?_⟩
    have nTp:=W5.ne hTn
    have nTt:T≠tA:=by rintro rfl; rw [hT13] at hTn; cases hTn
    have nTf:T≠fA:=by rintro rfl; rw [hF13] at hTn; cases hTn
    have W6:=W5.new hTn (.tup [.str ns[i],.ref D])
    refine⟨tA,tv,_,rfl,rfl,by rw [upd_ne (Ne.symm nTt)]; exact hT13,Nat.lt_of_lt_of_le (show tv.length<100 by omega) (by decide),?_⟩
    have W7:=W6.put hpt tfree (.lst (tv++[.ref T]))
    have st:∀ a o,(H a=none∧a≠tA∧a≠fA)→H13 a=some o→(upd (upd H13 T (.tup [.str ns[i],.ref D])) tA (.lst (tv++[.ref T]))) a=some o:=fun a o z e=>by rw [upd_ne z.2.1,upd_ne (ne_of_none e hTn)]; exact e
    refine⟨ts++[⟨ns[i],us⟩],fs,tv++[.ref T],fv,_,_,rfl,upd_same,?_,?_,?_,?_,?_,okF,?_,?_,W7⟩
    ·rw [List.map_append]
     refine(rT13.mono (fun _ z=>z) st).snoc (.tup ⟨W5.free hTn,nTt,nTf⟩ (by rw [upd_ne nTt]; exact upd_same) (.cons (.str _) (.cons (.lst ⟨hDfree,nDt,nDf⟩ (st D _ ⟨hDfree,nDt,nDf⟩ hD13) (RdA.strs us)) .nil)))
    ·rw [upd_ne (Ne.symm ntf),upd_ne (Ne.symm nTf)]; exact hF13
    ·exact rF13.mono (fun _ z=>z) st
    ·rw [List.map_append,List.map_cons,List.map_nil,ptake,List.append_assoc]
     refine(List.Perm.append_left _ List.perm_append_comm).trans ?_
     rw [← List.append_assoc]
     exact List.Perm.append_right _ hperm
    ·intro t ht
     rcases List.mem_append.mp ht with ht | ht
     ·exact okT t ht
     ·rw [List.mem_singleton.mp ht]; exact⟨hnsg _ (List.getElem_mem hil),hul,hus⟩
    ·rw [upd_ne nkt,upd_ne (ne_of_none hK13 hTn)]; exact hK13
    ·rw [upd_ne nnt,upd_ne (ne_of_none hN13 hTn)]; exact hN13
   ·
    refine⟨_,rfl,.inl ⟨rfl,_,SqL.of hF13⟩,_,rfl,_,rfl,_,rfl,_,rfl,_,rfl,kA,_,rfl,.inl (SqL.of hK13),p,_,rfl,hp13,by rw [List.length_map]; omega,by rw [List.length_map]; omega,fun r8 H14 m0 m1 hp14 s14=>?_⟩
    rw [List.length_map] at m1
    have hr8:r8.toNat<ks.length:=by omega
    have hK14:=s14 kA _ npk hK13
    have hT14:=s14 tA _ (Ne.symm hpt) hT13
    have hF14:=s14 fA _ (Ne.symm hpf) hF13
    have hN14:=s14 nA _ npn hN13
    have rT14:=keepR s14 rT13
    have rF14:=keepR s14 rF13
    have hD14:=s14 D _ nDp hD13
    have W6:=W5.mk1 hp14 s14
    refine⟨kA,_,r8,V.str ks[r8.toNat],rfl,rfl,SqL.of hK14,atI_int m0 (by simp [hr8]),by show 3≤sizeLine; decide,fun T hTn=>?_⟩
    have nTt:T≠tA:=by rintro rfl; rw [hT14] at hTn; cases hTn
    have nTf:T≠fA:=by rintro rfl; rw [hF14] at hTn; cases hTn
    have W7:=W6.new hTn (.tup [.str ns[i],.ref D,.str ks[r8.toNat]])
    refine⟨fA,fv,_,rfl,rfl,by rw [upd_ne (Ne.symm nTf)]; exact hF14,Nat.lt_of_lt_of_le (show fv.length<100 by omega) (by decide),?_⟩
    have W8:=W7.put hpf ffree (.lst (fv++[.ref T]))
    have st:∀ a o,(H a=none∧a≠tA∧a≠fA)→H14 a=some o→(upd (upd H14 T (.tup [.str ns[i],.ref D,.str ks[r8.toNat]])) fA (.lst (fv++[.ref T]))) a=some o:=fun a o z e=>by rw [upd_ne z.2.2,upd_ne (ne_of_none e hTn)]; exact e
    refine⟨ts,fs++[⟨ns[i],us,ks[r8.toNat]⟩],tv,fv++[.ref T],_,_,rfl,?_,?_,upd_same,?_,?_,okT,?_,?_,?_,W8⟩
    ·rw [upd_ne ntf,upd_ne (Ne.symm nTt)]; exact hT14
    ·exact rT14.mono (fun _ z=>z) st
    ·rw [List.map_append]
     refine(rF14.mono (fun _ z=>z) st).snoc (.tup ⟨W6.free hTn,nTt,nTf⟩ (by rw [upd_ne nTf]; exact upd_same) (.cons (.str _) (.cons (.lst ⟨hDfree,nDt,nDf⟩ (st D _ ⟨hDfree,nDt,nDf⟩ hD14) (RdA.strs us)) (.cons (.str _) .nil))))
    ·rw [List.map_append,List.map_cons,List.map_nil,ptake,← List.append_assoc]
     exact List.Perm.append_right _ hperm
    ·intro t ht
     rcases List.mem_append.mp ht with ht | ht
     ·exact okF t ht
     ·rw [List.mem_singleton.mp ht]; exact⟨hnsg _ (List.getElem_mem hil),hul,hus,List.getElem_mem hr8⟩
    ·rw [upd_ne nkf,upd_ne (ne_of_none hK14 hTn)]; exact hK14
    ·rw [upd_ne nnf,upd_ne (ne_of_none hN14 hTn)]; exact hN14
  ·rintro σ H2 ⟨ts,fs,tv,fv,v8,v9,rfl,hT,rT,hF,rF,hperm,okT,okF,hK,hN,W⟩
   rw [List.length_map,List.take_length] at hperm
   have lenT:ts.length+fs.length=ns.length:=by
    have:=hperm.length_eq
    simpa using this
   refine⟨_,rfl,_,rfl,_,rfl,by show 3≤sizeLine; decide,fun B hB=>?_⟩
   have hs:=same_new hB (.tup [.ref kA,.ref tA,.ref fA])
   refine q _ _ ks ts fs (.tup (W.free hB) upd_same (.cons (.lst kfree (hs _ _ hK) (RdA.strs ks)) (.cons (.lst tfree (hs _ _ hT) (rT.mono (fun _ z=>z.1) fun a o _ e=>hs a o e)) (.cons (.lst ffree (hs _ _ hF) (rF.mono (fun _ z=>z.1) fun a o _ e=>hs a o e)) .nil))))
    ⟨hknd,by omega,by omega,hknm,(List.Perm.nodup_iff hperm).mpr hnnd,by omega,okT,okF⟩ (by omega) (by omega) (W.new hB _)
end
structure RowR where
 nm:Str
 ps:List Str
 rest:List Str
def tieRow (t:TieR):RowR:=⟨t.nm,t.ps,[]⟩
def funRow (t:FunR):RowR:=⟨t.nm,t.ps,[t.kd]⟩
def tieT (t:TieR):PyData:=.tuple [.str t.nm,.tuple (strsD t.ps)]
def funT (t:FunR):PyData:=.tuple [.str t.nm,.tuple (strsD t.ps),.str t.kd]
structure SgAt (H:Hp) (q:Addr×Addr) (r:RowR):Prop where
 row:LT H q.1 (.str r.nm::.ref q.2::r.rest.map V.str)
 plc:LT H q.2 (r.ps.map V.str)
inductive Sgs (H:Hp):List (Addr×Addr)→List RowR→Prop where
 | nil:Sgs H [] []
 | cons {q:Addr×Addr} {r:RowR} {ab:List (Addr×Addr)} {rs:List RowR}:SgAt H q r→Sgs H ab rs→Sgs H (q::ab) (r::rs)
theorem Sgs.length {H:Hp}:∀ {ab:List (Addr×Addr)} {rs:List RowR},Sgs H ab rs→ab.length=rs.length
 | _,_,.nil=>rfl
 | _,_,.cons _ t=>by rw [List.length_cons,List.length_cons,Sgs.length t]
theorem Sgs.get {H:Hp}:∀ {ab:List (Addr×Addr)} {rs:List RowR} {i:Nat} {q:Addr×Addr},Sgs H ab rs→ab[i]? = some q→∃ r,rs[i]? = some r∧SgAt H q r
 | _,_,_,_,.nil,h=>by simp at h
 | _,_,0,_,.cons a t,h=>by simp at h; subst h; exact⟨_,rfl,a⟩
 | _,_,i+1,_,.cons a t,h=>by simpa using Sgs.get (i:=i) t (by simpa using h)
theorem zds:LD "LETTERS":=by decide +kernel
theorem zdt:LD "LONGEST_NAME":=by decide +kernel
theorem zdu:LD "MOST_KINDS":=by decide +kernel
theorem zdv:LD "MOST_PLACES":=by decide +kernel
theorem zdw:LD "WORDS_OF_SAYINGS":=by decide +kernel
theorem zdx:LD "all":=by decide +kernel
theorem zdy:LM "all":=by decide +kernel
theorem zdz:LD "check_apart":=by decide +kernel
theorem zd0:LD "checked_kind":=by decide +kernel
theorem zd1:LD "checked_places":=by decide +kernel
theorem zd2:LD "checked_sign_name":=by decide +kernel
theorem zd3:LD "function":=by decide +kernel
theorem zd4:LS "function":=by decide +kernel
theorem zd5:LD "is_list":=by decide +kernel
theorem zd6:LD "is_name":=by decide +kernel
theorem zd7:LD "isinstance":=by decide +kernel
theorem zd8:LM "isinstance":=by decide +kernel
theorem zd9:LD "kind":=by decide +kernel
theorem zea:LS "kind":=by decide +kernel
theorem zeb:LD "kinds":=by decide +kernel
theorem zec:LS "kinds":=by decide +kernel
theorem zed:LD "name":=by decide +kernel
theorem zee:LS "name":=by decide +kernel
theorem zef:LD "names":=by decide +kernel
theorem zeg:LS "names":=by decide +kernel
theorem zeh:LD "places":=by decide +kernel
theorem zei:LS "places":=by decide +kernel
theorem zej:LD "set":=by decide +kernel
theorem zek:LM "set":=by decide +kernel
theorem zel:LD "sign":=by decide +kernel
theorem zem:LS "sign":=by decide +kernel
theorem zen:LD "str":=by decide +kernel
theorem zeo:LM "str":=by decide +kernel
theorem zep:LD "thing":=by decide +kernel
theorem zeq:LS "thing":=by decide +kernel
theorem zer:LD "tie":=by decide +kernel
theorem zes:LS "tie":=by decide +kernel
theorem zet:LD "tuple":=by decide +kernel
theorem zeu:LM "tuple":=by decide +kernel
section
variable {P:Program} {w:World} {K:PySem.W.Frag} {mg:Str→Option Value} {base:Heap}
abbrev s_is_list:Stmt:=top 7
theorem zev:FnScope ["thing"] ["thing"] (defScope s_is_list):=⟨rfl,rfl,rfl,by decide +kernel,rfl,by decide +kernel,by decide +kernel⟩
theorem zew:LN .globalImplicit s_is_list "isinstance":=by decide +kernel
theorem zex:LN .globalImplicit s_is_list "list":=by decide +kernel
theorem zey:LN .local s_is_list "thing":=by decide +kernel
theorem zez:LN .globalImplicit s_is_list "tuple":=by decide +kernel
def spIsList:Sp:=fun vs H Q _=>∃ (a:Addr) (xs:List V),vs=[.ref a]∧LT H a xs∧∀ H',Same H H'→Q (.bl true) H'
theorem ok_is_list (F:FunAt K mg "is_list" s_is_list ["thing"]) (Z:Bl mg):Def P w K mg base "is_list" 1 ["thing"] spIsList:=by
 have SC:=zev
 refine F.mk' (k:=0) zev (fun vs H Q E h=>?_) (fun f cdv A outer s H vs Q E hr h=>?_)
 ·obtain⟨a,xs,rfl,_⟩:=h
  rfl
 ·obtain⟨a,xs,rfl,hL,q⟩:=h
  refine'⟨_,?derivation,?_⟩
  case derivation=>refine' pss_one ?Aa;case Aa=>refine' ps_ret ?Ba;case Ba=>refine' pe_callB (hn:=zd8) (hdb:=zd7) (call_isi2 (T:="list") (U:="tuple")) zew Z.n_isinstance bt_isinstance ?Ca rfl rfl;case Ca=>refine' pa_cons (pq 0 (visL zey) zep zeq) ?Da ?Ea;(case Da=>refine' pa_cons ?Fa pa_nil ?Ga;(case Fa=>refine' pe_tup ?Ha;case Ha=>refine' pa_cons ?Ia ?Ja ?Ka;(case Ia=>refine' pe_bltn (v:=V.ty "list") (hn:=zby) (hd:=zbx) zex Z.n_list bt_list rfl);(case Ja=>refine' pa_cons ?La pa_nil ?Ma;(case La=>refine' pe_bltn (v:=V.ty "tuple") (hn:=zeu) (hd:=zet) zez Z.n_tuple bt_tuple rfl);case Ma=>rfl);case Ka=>rfl);case Ga=>rfl);case Ea=>rfl
  refine⟨_,rfl,by show 2≤sizeLine; decide,fun t ht=>?_⟩
  have st:=same_new ht (.tup [.ty "list",.ty "tuple"])
  obtain⟨ty,hty,hk⟩:=(hL.same st).isi2 (K:=K)
  exact⟨_,t,ty,true,rfl,upd_same,hty,hk,q _ st⟩
abbrev s_is_name:Stmt:=top 8
theorem ze0:FnScope ["thing"] ["thing"] (defScope s_is_name):=⟨rfl,rfl,rfl,by decide +kernel,rfl,by decide +kernel,by decide +kernel⟩
theorem ze1:LN .globalImplicit s_is_name "LONGEST_NAME":=by decide +kernel
theorem ze2:LN .globalImplicit s_is_name "all":=by decide +kernel
theorem ze3:LN .globalImplicit s_is_name "isinstance":=by decide +kernel
theorem ze4:LN .globalImplicit s_is_name "len":=by decide +kernel
theorem ze5:LN .globalImplicit s_is_name "str":=by decide +kernel
theorem ze6:LN .local s_is_name "thing":=by decide +kernel
abbrev QS2:Scope:={kind:=PySem.ScopeKind.function,names:=[ (PySem.Str.ofString ".0",PySem.NameKind.local),(PySem.Str.ofString "sign",PySem.NameKind.local),(PySem.Str.ofString "LETTERS",PySem.NameKind.globalImplicit)],isGenerator:=false,isCoroutine:=false,more:=[]:PySem.Scope}
theorem ze7:CompSc 1 ["sign","thing"] ["thing"] (defScope s_is_name) QS2:=⟨rfl,by decide +kernel,by decide +kernel,by decide +kernel,by decide +kernel,rfl,by decide +kernel⟩
theorem ze8:LC .globalImplicit QS2 "LETTERS":=by decide +kernel
theorem ze9:LC .local QS2 "sign":=by decide +kernel
def spIsName:Sp:=fun vs H Q _=>∃ z:Str,vs=[.str z]∧isNm z∧∀ H',Same H H'→Q (.bl true) H'
theorem ok_is_name (F:FunAt K mg "is_name" s_is_name ["thing"]) (Z:Bl mg) (G:Gs K mg):Def P w K mg base "is_name" 1 ["thing"] spIsName:=by
 have SC:=ze0
 obtain⟨_,g_LETTERS,r_LETTERS⟩:=G.letters
 obtain⟨_,g_LONGEST_NAME,r_LONGEST_NAME⟩:=G.longest
 refine F.mk' (k:=0) ze0 (fun vs H Q E h=>?_) (fun f cdv A outer s H vs Q E hr h=>?_)
 ·obtain⟨z,rfl,_⟩:=h
  rfl
 ·obtain⟨z,rfl,⟨h1,h2,h3⟩,q⟩:=h
  have hz:=str_len z
  have hcs:z.cps.size=z.cps.toList.length:=by simp
  refine'⟨_,?derivation,?_⟩
  case derivation=>refine' pss_cons ?Aa ?Ba;(case Aa=>refine' ps_if ?Ca ?Da pss_nil;(case Ca=>refine' PW.pt ?Ea;case Ea=>refine' pw_or ?Fa ?Ga;(case Fa=>refine' pt_not ?Ha;case Ha=>refine' pt_val ?Ia ?Ja;(case Ia=>refine' pe_callB (hn:=zd8) (hdb:=zd7) (call_isiT (T:="str")) ze3 Z.n_isinstance bt_isinstance ?Ka rfl rfl;case Ka=>refine' pa_cons (pq 0 (visL ze6) zep zeq) ?La ?Ma;(case La=>refine' pa_cons ?Na pa_nil ?Oa;(case Na=>refine' pe_bltn (v:=V.ty "str") (hn:=zeo) (hd:=zen) ze5 Z.n_str bt_str rfl);case Oa=>rfl);case Ma=>rfl);case Ja=>intro _; rfl);case Ga=>refine' pw_or1 ?Pa;case Pa=>refine' pt_not ?Qa;case Qa=>refine' pt_chain op_le op_le ?Ra ?Sa ?Ta ?Ua;(case Ra=>exact pe_int);(case Sa=>refine' pe_callB (hn:=zbw) (hdb:=zbv) call_len_str ze4 Z.n_len bt_len ?Va rfl rfl;case Va=>refine' pa_cons (pq 0 (visL ze6) zep zeq) pa_nil ?Wa;case Wa=>rfl);(case Ta=>refine' pe_glob (hd:=zdt) ze1 g_LONGEST_NAME r_LONGEST_NAME);case Ua=>with_unfolding_all rfl);case Da=>refine' pss_one ?Xa;case Xa=>refine' ps_ret ?Ya;case Ya=>exact pe_bl);case Ba=>refine' pss_one ?Za;case Za=>refine' ps_ret ?Ab;case Ab=>refine' pe_callB (hn:=zdy) (hdb:=zdx) (call_allB rfl) ze2 Z.n_all bt_all ?Bb rfl rfl;case Bb=>refine' pa_cons ?Cb pa_nil ?Db;(case Cb=>refine' pe_comp noxe rfl ze7.at ?Eb ?Fb ?Gb ?Hb;(case Eb=>refine' pi_str (pq 0 (visL ze6) zep zeq));(case Fb=>intro _ _ _ _ _;refine' pg_name (i:=0) ze7.nd rfl (locO ze9) (.inr (lookup_relabel_local ze9)));(case Gb=>intro _ _ _ _ _;refine' pe_cmpR op_in_str (pq 0 (visO ze9) zel zem) ?Ib (by with_unfolding_all rfl);case Ib=>refine' pe_glob (hd:=zds) (glO ze8) g_LETTERS r_LETTERS);case Hb=>intro _; rfl);case Db=>rfl
  refine⟨_,rfl,_,_,_,rfl,.str _,kit_str1 K,true,rfl,iteF ?_⟩
  refine⟨_,rfl,_,rfl,Nat.le_trans (show z.length≤12 by omega) (by decide),_,_,rfl,rfl,_,rfl,ifT (decide_eq_true (by omega)) ?_⟩
  refine⟨_,_,rfl,rfl,_,rfl,ifF (by simp; omega) ?_⟩
  refine⟨_,rfl,z,rfl,?_⟩
  intro cl C ex s0 H0
  refine comp_it1 z.cps.size (fun i ys H1=>ys=(List.replicate i true).map V.bl∧H1=H) (fun i x=>∃ c,z.cps[i]? = some c∧x=.str ⟨#[c]⟩) ⟨rfl,rfl⟩ (Nat.le_trans (show z.cps.size≤12 by omega) (by decide)) (fun i ys H1 hi _ _=>go_str hi) (fun ys H1 _ _=>stop_str) ?_ ?_
  ·rintro i x ys H1 hi ⟨c,hc,rfl⟩ hy ⟨rfl,rfl⟩
   have hm:c∈z.cps.toList:=by
    have : z.cps.toList[i]? = some c:=by simpa using hc
    exact List.mem_of_getElem? this
   obtain⟨c0,c1⟩:=h3 c hm
   refine⟨_,rfl,_,_,rfl,rfl,?_,rfl⟩
   rw [inAbc' c0 c1,List.replicate_succ',List.map_append]
   rfl
  ·rintro ys H1 hy ⟨rfl,rfl⟩ D hD
   refine⟨D,List.replicate z.cps.size true,rfl,SqL.of upd_same,?_⟩
   have e:(List.replicate z.cps.size true).all id=true:=by simp
   rw [e]
   exact q _ (same_new hD _)
abbrev s_check_apart:Stmt:=top 36
theorem zfa:FnScope ["names"] ["names"] (defScope s_check_apart):=⟨rfl,rfl,rfl,by decide +kernel,rfl,by decide +kernel,by decide +kernel⟩
theorem zfb:LN .globalImplicit s_check_apart "len":=by decide +kernel
theorem zfc:LN .local s_check_apart "names":=by decide +kernel
theorem zfd:LN .globalImplicit s_check_apart "set":=by decide +kernel
def spApart:Sp:=fun vs H Q _=>∃ (a:Addr) (ws:List Str),vs=[.ref a]∧LT H a (ws.map V.str)∧ws.Nodup∧ws.length≤1000∧∀ H',Same H H'→Q .non H'
theorem ok_apart (F:FunAt K mg "check_apart" s_check_apart ["names"]) (Z:Bl mg):Def P w K mg base "check_apart" 1 ["names"] spApart:=by
 have SC:=zfa
 refine F.mk' (k:=0) zfa (fun vs H Q E h=>?_) (fun f cdv A outer s H vs Q E hr h=>?_)
 ·obtain⟨a,ws,rfl,_⟩:=h
  rfl
 ·obtain⟨a,ws,rfl,hL,hnd,hl,q⟩:=h
  refine'⟨_,?derivation,?_⟩
  case derivation=>refine' pss_one ?Aa;case Aa=>refine' ps_if ?Ba ?Ca pss_nil;(case Ba=>refine' pt_cmpR op_ne ?Da ?Ea (nomark _);(case Da=>refine' pe_callB (hn:=zbw) (hdb:=zbv) call_lenT zfb Z.n_len bt_len ?Fa rfl rfl;case Fa=>refine' pa_cons ?Ga pa_nil ?Ha;(case Ga=>refine' pe_callTy (hn:=zek) (hdb:=zej) (call_setT rfl) zfd Z.n_set bt_set ?Ia rfl rfl;case Ia=>refine' pa_cons (pq 0 (visL zfc) zef zeg) pa_nil ?Ja;case Ja=>rfl);case Ha=>rfl);case Ea=>refine' pe_callB (hn:=zbw) (hdb:=zbv) call_len_seq zfb Z.n_len bt_len ?Ka rfl rfl;case Ka=>refine' pa_cons (pq 0 (visL zfc) zef zeg) pa_nil ?La;case La=>rfl);case Ca=>refine' pss_one ps_never
  refine⟨_,rfl,a,ws,rfl,hL.sq,Nat.lt_of_le_of_lt (show ws.length+1≤1001 by omega) (by decide),fun d hd=>?_⟩
  have st:=same_new hd (SetT P w d ws)
  refine⟨d,ws,rfl,upd_same,?_⟩
  refine⟨_,rfl,a,_,rfl,(hL.same st).sq,rfl,_,rfl,?_⟩
  have e:(ws.foldl stepS []).length=ws.length:=by rw [foldS_nodup ws [] hnd (fun _ _ z=>nomatch z)]; simp
  refine ifF ?_ (q _ st)
  rw [e,List.length_map]
  simp
abbrev s_checked_kinds:Stmt:=top 30
theorem zfe:FnScope ["kinds","kind"] ["kinds"] (defScope s_checked_kinds):=⟨rfl,rfl,rfl,by decide +kernel,rfl,by decide +kernel,by decide +kernel⟩
theorem zff:LN .globalImplicit s_checked_kinds "MOST_KINDS":=by decide +kernel
theorem zfg:LN .globalImplicit s_checked_kinds "check_apart":=by decide +kernel
theorem zfh:LN .globalImplicit s_checked_kinds "is_list":=by decide +kernel
theorem zfi:LN .globalImplicit s_checked_kinds "is_name":=by decide +kernel
theorem zfj:LN .local s_checked_kinds "kind":=by decide +kernel
theorem zfk:LN .local s_checked_kinds "kinds":=by decide +kernel
theorem zfl:LN .globalImplicit s_checked_kinds "len":=by decide +kernel
theorem zfm:LN .globalImplicit s_checked_kinds "tuple":=by decide +kernel
structure KindsOk (ks:List Str):Prop where
 kn:ks.Nodup
 k1:1≤ks.length
 k4:ks.length≤4
 kn2:∀ k∈ks,isNm k
def spKinds:Sp:=fun vs H Q _=>∃ (a:Addr) (ks:List Str),vs=[.ref a]∧LT H a (ks.map V.str)∧KindsOk ks∧∀ t H',H' t=some (.tup (ks.map V.str))→Same H H'→Q (.ref t) H'
theorem ok_kinds (F:FunAt K mg "checked_kinds" s_checked_kinds ["kinds"]) (Z:Bl mg) (G:Gs K mg) (D_is_list:Def P w K mg base "is_list" 1 ["thing"] spIsList) (D_is_name:Def P w K mg base "is_name" 1 ["thing"] spIsName) (D_check_apart:Def P w K mg base "check_apart" 1 ["names"] spApart) :
  Def P w K mg base "checked_kinds" 2 ["kinds"] spKinds:=by
 have SC:=zfe
 obtain⟨_,g_MOST_KINDS,r_MOST_KINDS⟩:=G.mkinds
 refine F.mk' (k:=1) zfe (fun vs H Q E h=>?_) (fun f cdv A outer s H vs Q E hr h=>?_)
 ·obtain⟨a,ks,rfl,_⟩:=h
  rfl
 ·obtain⟨a,ks,rfl,hL,ok,q⟩:=h
  have k1:=ok.k1
  have k4:=ok.k4
  refine'⟨_,?derivation,?_⟩
  case derivation=>refine' pss_cons ?Aa ?Ba;(case Aa=>refine' ps_if ?Ca ?Da pss_nil;(case Ca=>refine' PW.pt ?Ea;case Ea=>refine' pw_or ?Fa ?Ga;(case Fa=>refine' pt_not ?Ha;case Ha=>refine' pt_val ?Ia ?Ja;(case Ia=>refine' pe_def (hdb:=zd5) D_is_list (hr.mono (by decide)) zfh ?Ka rfl rfl;case Ka=>refine' pa_cons (pq 0 (visL zfk) zeb zec) pa_nil ?La;case La=>rfl);case Ja=>intro _; rfl);case Ga=>refine' pw_or1 ?Ma;case Ma=>refine' pt_not ?Na;case Na=>refine' pt_chain op_le op_le ?Oa ?Pa ?Qa ?Ra;(case Oa=>exact pe_int);(case Pa=>refine' pe_callB (hn:=zbw) (hdb:=zbv) call_len_seq zfl Z.n_len bt_len ?Sa rfl rfl;case Sa=>refine' pa_cons (pq 0 (visL zfk) zeb zec) pa_nil ?Ta;case Ta=>rfl);(case Qa=>refine' pe_glob (hd:=zdu) zff g_MOST_KINDS r_MOST_KINDS);case Ra=>with_unfolding_all rfl);case Da=>refine' pss_one ps_never);case Ba=>refine' pss_cons ?Ua ?Va;(case Ua=>refine' ps_for PassesOwn.never rfl ?Wa ?Xa ?Ya ?Za;(case Wa=>refine' pi_seq (pq 0 (visL zfk) zeb zec));(case Xa=>refine' pg_name (i:=1) (x:=Str.ofString "kind") SC.nd rfl (Or.inl zfj) (.inl rfl));(case Ya=>refine' pss_one ?Ab;case Ab=>refine' ps_if ?Bb ?Cb pss_nil;(case Bb=>refine' pt_not ?Db;case Db=>refine' pt_val ?Eb ?Fb;(case Eb=>refine' pe_def (hdb:=zd6) D_is_name (hr.mono (by decide)) zfi ?Gb rfl rfl;case Gb=>refine' pa_cons (pq 1 (visL zfj) zd9 zea) pa_nil ?Hb;case Hb=>rfl);case Fb=>intro _; rfl);case Cb=>refine' pss_one ps_never);case Za=>intro _; rfl);case Va=>refine' pss_cons ?Ib ?Jb;(case Ib=>refine' ps_expr ?Kb rfl;case Kb=>refine' pe_def (hdb:=zdz) D_check_apart (hr.mono (by decide)) zfg ?Lb rfl rfl;case Lb=>refine' pa_cons (pq 0 (visL zfk) zeb zec) pa_nil ?Mb;case Mb=>rfl);case Jb=>refine' pss_one ?Nb;case Nb=>refine' ps_ret ?Ob;case Ob=>refine' pe_callTy (hn:=zeu) (hdb:=zet) ?Pb zfm Z.n_tuple bt_tuple ?Qb rfl rfl;(case Pb=>exact call_tuple_of);case Qb=>refine' pa_cons (pq 0 (visL zfk) zeb zec) pa_nil ?Rb;case Rb=>rfl
  refine⟨_,rfl,a,_,rfl,hL,fun H1 s1=>⟨true,rfl,iteF ?_⟩⟩
  refine⟨_,rfl,a,_,rfl,(hL.same s1).sq,_,_,rfl,rfl,_,rfl,ifT (decide_eq_true (by rw [List.length_map]; omega)) ?_⟩
  refine⟨_,_,rfl,rfl,_,rfl,ifF (by rw [List.length_map]; simp; omega) ?_⟩
  refine(hL.same s1).over rfl fun J O=>O.loop (fun j σ H2=>∃ v,σ=[some (.ref a),v]∧Same H1 H2) ⟨_,rfl,Same.refl _⟩ (fun j σ H2 _ ⟨_,_,z⟩ o e=>z a o e) ?_ ?_
  ·rintro i x σ H2 hi ⟨v,rfl,s2⟩
   rw [List.getElem?_map] at hi
   obtain⟨k,hk,rfl⟩:=Option.map_eq_some_iff.mp hi
   refine⟨_,rfl,k,rfl,ok.kn2 k (List.mem_of_getElem? hk),fun H3 s3=>⟨true,rfl,iteF ?_⟩⟩
   exact⟨_,rfl,s2.trans s3⟩
  ·rintro σ H2 ⟨v,rfl,s2⟩
   refine⟨_,rfl,a,ks,rfl,(hL.same s1).same s2,ok.kn,by omega,fun H3 s3=>?_⟩
   have s03:=(s1.trans s2).trans s3
   refine⟨_,rfl,a,ks.map V.str,rfl,?_⟩
   rcases hL.same s03 with e | e
   ·exact .inl ⟨SqL.of e,fun l hl=>q l _ upd_same (s03.trans (same_new hl _))⟩
   ·exact .inr ⟨SqT.of e,q a _ e s03⟩
abbrev s_checked_kind:Stmt:=top 35
theorem zfn:FnScope ["kinds","kind"] ["kinds","kind"] (defScope s_checked_kind):=⟨rfl,rfl,rfl,by decide +kernel,rfl,by decide +kernel,by decide +kernel⟩
theorem zfo:LN .globalImplicit s_checked_kind "is_name":=by decide +kernel
theorem zfp:LN .local s_checked_kind "kind":=by decide +kernel
theorem zfq:LN .local s_checked_kind "kinds":=by decide +kernel
def spKind:Sp:=fun vs H Q _=>∃ (a:Addr) (ks:List Str) (k:Str),vs=[.ref a,.str k]∧LT H a (ks.map V.str)∧isNm k∧k∈ks∧∀ H',Same H H'→Q (.str k) H'
theorem ok_kind (F:FunAt K mg "checked_kind" s_checked_kind ["kinds","kind"]) (Z:Bl mg) (D_is_name:Def P w K mg base "is_name" 1 ["thing"] spIsName):Def P w K mg base "checked_kind" 2 ["kinds","kind"] spKind:=by
 have SC:=zfn
 refine F.mk' (k:=1) zfn (fun vs H Q E h=>?_) (fun f cdv A outer s H vs Q E hr h=>?_)
 ·obtain⟨a,ks,k,rfl,_⟩:=h
  rfl
 ·obtain⟨a,ks,k,rfl,hL,hn,hk,q⟩:=h
  refine'⟨_,?derivation,?_⟩
  case derivation=>refine' pss_cons ?Aa ?Ba;(case Aa=>refine' ps_if ?Ca ?Da pss_nil;(case Ca=>refine' PW.pt ?Ea;case Ea=>refine' pw_or ?Fa ?Ga;(case Fa=>refine' pt_not ?Ha;case Ha=>refine' pt_val ?Ia ?Ja;(case Ia=>refine' pe_def (hdb:=zd6) D_is_name (hr.mono (by decide)) zfo ?Ka rfl rfl;case Ka=>refine' pa_cons (pq 1 (visL zfp) zd9 zea) pa_nil ?La;case La=>rfl);case Ja=>intro _; rfl);case Ga=>refine' pw_or1 ?Ma;case Ma=>refine' pt_cmpR op_notIn_seq (pq 1 (visL zfp) zd9 zea) (pq 0 (visL zfq) zeb zec) (by with_unfolding_all rfl));case Da=>refine' pss_one ps_never);case Ba=>refine' pss_one ?Na;case Na=>refine' ps_ret (pq 1 (visL zfp) zd9 zea)
  refine⟨_,rfl,k,rfl,hn,fun H1 s1=>⟨true,rfl,iteF ?_⟩⟩
  refine⟨_,rfl,_,rfl,a,_,rfl,(hL.same s1).sq,rfl,flat_strs ks,_,rfl,ifF ?_ ⟨_,rfl,q _ s1⟩⟩
  rw [inV_strs,decide_eq_true hk]
  decide
abbrev s_checked_places:Stmt:=top 34
theorem zfr:FnScope ["kinds","places"] ["kinds","places"] (defScope s_checked_places):=⟨rfl,rfl,rfl,by decide +kernel,rfl,by decide +kernel,by decide +kernel⟩
theorem zfs:LN .globalImplicit s_checked_places "MOST_PLACES":=by decide +kernel
theorem zft:LN .globalImplicit s_checked_places "is_list":=by decide +kernel
theorem zfu:LN .globalImplicit s_checked_places "len":=by decide +kernel
theorem zfv:LN .local s_checked_places "places":=by decide +kernel
theorem zfw:LN .globalImplicit s_checked_places "tuple":=by decide +kernel
abbrev QS3:Scope:={kind:=PySem.ScopeKind.function,names:=[ (PySem.Str.ofString ".0",PySem.NameKind.local),(PySem.Str.ofString "kind",PySem.NameKind.local),(PySem.Str.ofString "checked_kind",PySem.NameKind.globalImplicit),(PySem.Str.ofString "kinds",PySem.NameKind.free)],isGenerator:=false,isCoroutine:=false,more:=[]:PySem.Scope}
theorem zfx:CompSc 1 ["kind","kinds","places"] ["kinds","places"] (defScope s_checked_places) QS3:=⟨rfl,by decide +kernel,by decide +kernel,by decide +kernel,by decide +kernel,rfl,by decide +kernel⟩
theorem zfy:LC .globalImplicit QS3 "checked_kind":=by decide +kernel
theorem zfz:LC .local QS3 "kind":=by decide +kernel
theorem zf0:LC .free QS3 "kinds":=by decide +kernel
def spPlaces:Sp:=fun vs H Q _=>∃ (a b:Addr) (ks ps:List Str),vs=[.ref a,.ref b]∧LT H a (ks.map V.str)∧(∀ k∈ks,isNm k)∧LT H b (ps.map V.str)∧ps.length≤2∧(∀ k∈ps,k∈ks)∧∀ t H',H' t=some (.tup (ps.map V.str))→Same H H'→Q (.ref t) H'
theorem ok_places (F:FunAt K mg "checked_places" s_checked_places ["kinds","places"]) (Z:Bl mg) (G:Gs K mg) (D_is_list:Def P w K mg base "is_list" 1 ["thing"] spIsList) (D_checked_kind:Def P w K mg base "checked_kind" 2 ["kinds","kind"] spKind):Def P w K mg base "checked_places" 3 ["kinds","places"] spPlaces:=by
 have SC:=zfr
 obtain⟨_,g_MOST_PLACES,r_MOST_PLACES⟩:=G.mplaces
 refine F.mk' (k:=2) zfr (fun vs H Q E h=>?_) (fun f cdv A outer s H vs Q E hr h=>?_)
 ·obtain⟨a,b,ks,ps,rfl,_⟩:=h
  rfl
 ·obtain⟨a,b,ks,ps,rfl,hA,hnm,hB,h2,hin,q⟩:=h
  refine'⟨_,?derivation,?_⟩
  case derivation=>refine' pss_cons ?Aa ?Ba;(case Aa=>refine' ps_if ?Ca ?Da pss_nil;(case Ca=>refine' PW.pt ?Ea;case Ea=>refine' pw_or ?Fa ?Ga;(case Fa=>refine' pt_not ?Ha;case Ha=>refine' pt_val ?Ia ?Ja;(case Ia=>refine' pe_def (hdb:=zd5) D_is_list (hr.mono (by decide)) zft ?Ka rfl rfl;case Ka=>refine' pa_cons (pq 1 (visL zfv) zeh zei) pa_nil ?La;case La=>rfl);case Ja=>intro _; rfl);case Ga=>refine' pw_or1 ?Ma;case Ma=>refine' pt_cmpR op_gt ?Na ?Oa (nomark _);(case Na=>refine' pe_callB (hn:=zbw) (hdb:=zbv) call_len_seq zfu Z.n_len bt_len ?Pa rfl rfl;case Pa=>refine' pa_cons (pq 1 (visL zfv) zeh zei) pa_nil ?Qa;case Qa=>rfl);case Oa=>refine' pe_glob (hd:=zdv) zfs g_MOST_PLACES r_MOST_PLACES);case Da=>refine' pss_one ps_never);case Ba=>refine' pss_one ?Ra;case Ra=>refine' ps_ret ?Sa;case Sa=>refine' pe_callTy (hn:=zeu) (hdb:=zet) ?Ta zfw Z.n_tuple bt_tuple ?Ua rfl rfl;(case Ta=>exact call_tuple_of);case Ua=>refine' pa_cons ?Va pa_nil ?Wa;(case Va=>refine' pe_comp noxe rfl zfx.at ?Xa ?Ya ?Za ?Ab;(case Xa=>refine' pi_seq (pq 1 (visL zfv) zeh zei));(case Ya=>intro _ _ _ _ _;refine' pg_name (i:=0) zfx.nd rfl (locO zfz) (.inr (lookup_relabel_local zfz)));(case Za=>intro _ _ _ _ _;refine' pe_def (hdb:=zd0) D_checked_kind (hr.mono (by decide)) (glO zfy) ?Bb rfl rfl;case Bb=>refine' pa_cons (pq 1 (visF zf0) zeb zec) ?Cb ?Db;(case Cb=>refine' pa_cons (pq 0 (visO zfz) zd9 zea) pa_nil ?Eb;case Eb=>rfl);case Db=>rfl);case Ab=>intro _; rfl);case Wa=>rfl
  refine⟨_,rfl,b,_,rfl,hB,fun H1 s1=>⟨true,rfl,iteF ?_⟩⟩
  refine⟨_,rfl,b,_,rfl,(hB.same s1).sq,_,_,rfl,rfl,_,rfl,ifF (by rw [List.length_map]; simp; omega) ?_⟩
  refine(hB.same s1).over rfl fun J O=>?_
  intro cl C ex s0 H0
  refine O.comp (fun i ys H2=>ys=(ps.take i).map V.str∧Same H1 H2) ⟨rfl,Same.refl _⟩ (by rw [List.length_map]; exact Nat.le_trans h2 (by decide)) (fun i ys H2 _ ⟨_,z⟩ o e=>z b o e) ?_ ?_
  ·rintro i x ys H2 hi hy ⟨rfl,s2⟩
   rw [List.getElem?_map] at hi
   obtain⟨k,hk,rfl⟩:=Option.map_eq_some_iff.mp hi
   have hkp:=hin k (List.mem_of_getElem? hk)
   refine⟨_,rfl,_,rfl,a,ks,k,rfl,(hA.same s1).same s2,hnm k hkp,hkp,fun H3 s3=>⟨?_,s2.trans s3⟩⟩
   rw [List.take_succ,hk,List.map_append]; rfl
  ·rintro ys H2 hy ⟨rfl,s2⟩ D hD
   rw [List.length_map,List.take_length]
   refine⟨D,_,rfl,.inl ⟨SqL.of upd_same,fun t ht=>?_⟩⟩
   exact q t _ upd_same ((s1.trans s2).trans ((same_new hD _).trans (same_new ht _)))
abbrev s_checked_sign_name:Stmt:=top 33
theorem zf1:FnScope ["name"] ["name"] (defScope s_checked_sign_name):=⟨rfl,rfl,rfl,by decide +kernel,rfl,by decide +kernel,by decide +kernel⟩
theorem zf2:LN .globalImplicit s_checked_sign_name "WORDS_OF_SAYINGS":=by decide +kernel
theorem zf3:LN .globalImplicit s_checked_sign_name "is_name":=by decide +kernel
theorem zf4:LN .local s_checked_sign_name "name":=by decide +kernel
def spSignName:Sp:=fun vs H Q _=>∃ (k:Str),vs=[.str k]∧isSg k∧∀ H',Same H H'→Q (.str k) H'
theorem ok_sign_name (F:FunAt K mg "checked_sign_name" s_checked_sign_name ["name"]) (Z:Bl mg) (G:Gs K mg) (D_is_name:Def P w K mg base "is_name" 1 ["thing"] spIsName):Def P w K mg base "checked_sign_name" 2 ["name"] spSignName:=by
 have SC:=zf1
 obtain⟨wa,g_WORDS_OF_SAYINGS,hW⟩:=G.words
 have r_WORDS_OF_SAYINGS:RelV (.ref wa) (.ref wa):=rfl
 refine F.mk' (k:=1) zf1 (fun vs H Q E h=>?_) (fun f cdv A outer s H vs Q E hr h=>?_)
 ·obtain⟨k,rfl,_⟩:=h
  rfl
 ·obtain⟨k,rfl,hs,q⟩:=h
  refine'⟨_,?derivation,?_⟩
  case derivation=>refine' pss_cons ?Aa ?Ba;(case Aa=>refine' ps_if ?Ca ?Da pss_nil;(case Ca=>refine' PW.pt ?Ea;case Ea=>refine' pw_or ?Fa ?Ga;(case Fa=>refine' pt_not ?Ha;case Ha=>refine' pt_val ?Ia ?Ja;(case Ia=>refine' pe_def (hdb:=zd6) D_is_name (hr.mono (by decide)) zf3 ?Ka rfl rfl;case Ka=>refine' pa_cons (pq 0 (visL zf4) zed zee) pa_nil ?La;case La=>rfl);case Ja=>intro _; rfl);case Ga=>refine' pw_or1 ?Ma;case Ma=>refine' pt_cmpR op_in_seq (pq 0 (visL zf4) zed zee) ?Na (by with_unfolding_all rfl);case Na=>refine' pe_glob (hd:=zdw) zf2 g_WORDS_OF_SAYINGS r_WORDS_OF_SAYINGS);case Da=>refine' pss_one ps_never);case Ba=>refine' pss_one ?Oa;case Oa=>refine' ps_ret (pq 0 (visL zf4) zed zee)
  refine⟨_,rfl,k,rfl,hs.1,fun H1 s1=>⟨true,rfl,iteF ?_⟩⟩
  refine⟨_,rfl,wa,_,rfl,.inr (hW _),rfl,flat_strs sayWords,_,rfl,ifF ?_ ⟨_,rfl,q _ s1⟩⟩
  rw [inV_strs,decide_eq_false hs.2]
  decide
abbrev s_checked_tie:Stmt:=top 31
theorem zf5:FnScope ["kinds","tie","name","places"] ["kinds","tie"] (defScope s_checked_tie):=⟨rfl,rfl,rfl,by decide +kernel,rfl,by decide +kernel,by decide +kernel⟩
theorem zf6:LN .globalImplicit s_checked_tie "checked_places":=by decide +kernel
theorem zf7:LN .globalImplicit s_checked_tie "checked_sign_name":=by decide +kernel
theorem zf8:LN .globalImplicit s_checked_tie "is_list":=by decide +kernel
theorem zf9:LN .local s_checked_tie "kinds":=by decide +kernel
theorem zga:LN .globalImplicit s_checked_tie "len":=by decide +kernel
theorem zgb:LN .local s_checked_tie "name":=by decide +kernel
theorem zgc:LN .local s_checked_tie "places":=by decide +kernel
theorem zgd:LN .local s_checked_tie "tie":=by decide +kernel
def SgOk (ks:List Str) (nm:Str) (ps:List Str):Prop:=isSg nm∧ps.length≤2∧∀ k∈ps,k∈ks
def spTie:Sp:=fun vs H Q _=>∃ (a b c:Addr) (ks ps:List Str) (nm:Str),vs=[.ref a,.ref b]∧LT H a (ks.map V.str)∧(∀ k∈ks,isNm k)∧LT H b [.str nm,.ref c]∧LT H c (ps.map V.str)∧SgOk ks nm ps∧
 ∀ t u H',H' t=some (.tup [.str nm,.ref u])→H' u=some (.tup (ps.map V.str))→Same H H'→Q (.ref t) H'
theorem ok_tie (F:FunAt K mg "checked_tie" s_checked_tie ["kinds","tie"]) (Z:Bl mg) (D_is_list:Def P w K mg base "is_list" 1 ["thing"] spIsList) (D_checked_sign_name:Def P w K mg base "checked_sign_name" 2 ["name"] spSignName) (D_checked_places:Def P w K mg base "checked_places" 3 ["kinds","places"] spPlaces) :
  Def P w K mg base "checked_tie" 4 ["kinds","tie"] spTie:=by
 have SC:=zf5
 refine F.mk' (k:=3) zf5 (fun vs H Q E h=>?_) (fun f cdv A outer s H vs Q E hr h=>?_)
 ·obtain⟨a,b,c,ks,ps,nm,rfl,_⟩:=h
  rfl
 ·obtain⟨a,b,c,ks,ps,nm,rfl,hA,hnm,hB,hC,⟨hs,h2,hin⟩,q⟩:=h
  refine'⟨_,?derivation,?_⟩
  case derivation=>refine' pss_cons ?Aa ?Ba;(case Aa=>refine' ps_if ?Ca ?Da pss_nil;(case Ca=>refine' PW.pt ?Ea;case Ea=>refine' pw_or ?Fa ?Ga;(case Fa=>refine' pt_not ?Ha;case Ha=>refine' pt_val ?Ia ?Ja;(case Ia=>refine' pe_def (hdb:=zd5) D_is_list (hr.mono (by decide)) zf8 ?Ka rfl rfl;case Ka=>refine' pa_cons (pq 1 (visL zgd) zer zes) pa_nil ?La;case La=>rfl);case Ja=>intro _; rfl);case Ga=>refine' pw_or1 ?Ma;case Ma=>refine' pt_cmpR op_ne ?Na ?Oa (nomark _);(case Na=>refine' pe_callB (hn:=zbw) (hdb:=zbv) call_len_seq zga Z.n_len bt_len ?Pa rfl rfl;case Pa=>refine' pa_cons (pq 1 (visL zgd) zer zes) pa_nil ?Qa;case Qa=>rfl);case Oa=>exact pe_int);case Da=>refine' pss_one ps_never);case Ba=>refine' pss_cons ?Ra ?Sa;(case Ra=>refine' ps_asg ?Ta ?Ua ?Va ?Wa ?Xa;(case Ta=>exact(pq 1 (visL zgd) zer zes));(case Ua=>refine' pg_seq rfl ?Ya rfl rfl;case Ya=>refine' pgs_cons ?Za ?Ab ?Bb;(case Za=>refine' pg_name (i:=2) (x:=Str.ofString "name") SC.nd rfl (Or.inl zgb) (.inl rfl));(case Ab=>refine' pgs_cons ?Cb pgs_nil ?Db;(case Cb=>refine' pg_name (i:=3) (x:=Str.ofString "places") SC.nd rfl (Or.inl zgc) (.inl rfl));case Db=>rfl);case Bb=>rfl);(case Va=>rfl);(case Wa=>rfl);case Xa=>rfl);case Sa=>refine' pss_one ?Eb;case Eb=>refine' ps_ret ?Fb;case Fb=>refine' pe_tup ?Gb;case Gb=>refine' pa_cons ?Hb ?Ib ?Jb;(case Hb=>refine' pe_def (hdb:=zd2) D_checked_sign_name (hr.mono (by decide)) zf7 ?Kb rfl rfl;case Kb=>refine' pa_cons (pq 2 (visL zgb) zed zee) pa_nil ?Lb;case Lb=>rfl);(case Ib=>refine' pa_cons ?Mb pa_nil ?Nb;(case Mb=>refine' pe_def (hdb:=zd1) D_checked_places (hr.mono (by decide)) zf6 ?Ob rfl rfl;case Ob=>refine' pa_cons (pq 0 (visL zf9) zeb zec) ?Pb ?Qb;(case Pb=>refine' pa_cons (pq 3 (visL zgc) zeh zei) pa_nil ?Rb;case Rb=>rfl);case Qb=>rfl);case Nb=>rfl);case Jb=>rfl
  refine⟨_,rfl,b,_,rfl,hB,fun H1 s1=>⟨true,rfl,iteF ?_⟩⟩
  refine⟨_,rfl,b,_,rfl,(hB.same s1).sq,rfl,_,rfl,ifF (by simp) ?_⟩
  refine⟨_,rfl,b,_,rfl,(hB.same s1).sq,rfl,_,_,rfl,_,_,rfl,rfl,?_⟩
  refine⟨_,rfl,nm,rfl,hs,fun H2 s2=>?_⟩
  have s02:=s1.trans s2
  refine⟨_,rfl,_,rfl,a,c,ks,ps,rfl,hA.same s02,hnm,hC.same s02,h2,hin,fun u H3 hu s3=>?_⟩
  refine⟨by show 2≤sizeLine; decide,fun t ht=>?_⟩
  exact q t u _ upd_same (same_new ht _ _ _ hu) ((s02.trans s3).trans (same_new ht _))
abbrev s_checked_function:Stmt:=top 32
theorem zge:FnScope ["kinds","function","name","places","kind"] ["kinds","function"] (defScope s_checked_function):=⟨rfl,rfl,rfl,by decide +kernel,rfl,by decide +kernel,by decide +kernel⟩
theorem zgf:LN .globalImplicit s_checked_function "checked_kind":=by decide +kernel
theorem zgg:LN .globalImplicit s_checked_function "checked_places":=by decide +kernel
theorem zgh:LN .globalImplicit s_checked_function "checked_sign_name":=by decide +kernel
theorem zgi:LN .local s_checked_function "function":=by decide +kernel
theorem zgj:LN .globalImplicit s_checked_function "is_list":=by decide +kernel
theorem zgk:LN .local s_checked_function "kind":=by decide +kernel
theorem zgl:LN .local s_checked_function "kinds":=by decide +kernel
theorem zgm:LN .globalImplicit s_checked_function "len":=by decide +kernel
theorem zgn:LN .local s_checked_function "name":=by decide +kernel
theorem zgo:LN .local s_checked_function "places":=by decide +kernel
def spFunc:Sp:=fun vs H Q _=>∃ (a b c:Addr) (ks ps:List Str) (nm kd:Str),vs=[.ref a,.ref b]∧LT H a (ks.map V.str)∧(∀ k∈ks,isNm k)∧LT H b [.str nm,.ref c,.str kd]∧LT H c (ps.map V.str)∧SgOk ks nm ps∧kd∈ks∧
 ∀ t u H',H' t=some (.tup [.str nm,.ref u,.str kd])→H' u=some (.tup (ps.map V.str))→Same H H'→Q (.ref t) H'
theorem ok_func (F:FunAt K mg "checked_function" s_checked_function ["kinds","function"]) (Z:Bl mg) (D_is_list:Def P w K mg base "is_list" 1 ["thing"] spIsList) (D_checked_sign_name:Def P w K mg base "checked_sign_name" 2 ["name"] spSignName) (D_checked_places:Def P w K mg base "checked_places" 3 ["kinds","places"] spPlaces)
  (D_checked_kind:Def P w K mg base "checked_kind" 2 ["kinds","kind"] spKind):Def P w K mg base "checked_function" 4 ["kinds","function"] spFunc:=by
 have SC:=zge
 refine F.mk' (k:=3) zge (fun vs H Q E h=>?_) (fun f cdv A outer s H vs Q E hr h=>?_)
 ·obtain⟨a,b,c,ks,ps,nm,kd,rfl,_⟩:=h
  rfl
 ·obtain⟨a,b,c,ks,ps,nm,kd,rfl,hA,hnm,hB,hC,⟨hs,h2,hin⟩,hkd,q⟩:=h
  refine'⟨_,?derivation,?_⟩
  case derivation=>refine' pss_cons ?Aa ?Ba;(case Aa=>refine' ps_if ?Ca ?Da pss_nil;(case Ca=>refine' PW.pt ?Ea;case Ea=>refine' pw_or ?Fa ?Ga;(case Fa=>refine' pt_not ?Ha;case Ha=>refine' pt_val ?Ia ?Ja;(case Ia=>refine' pe_def (hdb:=zd5) D_is_list (hr.mono (by decide)) zgj ?Ka rfl rfl;case Ka=>refine' pa_cons (pq 1 (visL zgi) zd3 zd4) pa_nil ?La;case La=>rfl);case Ja=>intro _; rfl);case Ga=>refine' pw_or1 ?Ma;case Ma=>refine' pt_cmpR op_ne ?Na ?Oa (nomark _);(case Na=>refine' pe_callB (hn:=zbw) (hdb:=zbv) call_len_seq zgm Z.n_len bt_len ?Pa rfl rfl;case Pa=>refine' pa_cons (pq 1 (visL zgi) zd3 zd4) pa_nil ?Qa;case Qa=>rfl);case Oa=>exact pe_int);case Da=>refine' pss_one ps_never);case Ba=>refine' pss_cons ?Ra ?Sa;(case Ra=>refine' ps_asg ?Ta ?Ua ?Va ?Wa ?Xa;(case Ta=>exact(pq 1 (visL zgi) zd3 zd4));(case Ua=>refine' pg_seq rfl ?Ya rfl rfl;case Ya=>refine' pgs_cons ?Za ?Ab ?Bb;(case Za=>refine' pg_name (i:=2) (x:=Str.ofString "name") SC.nd rfl (Or.inl zgn) (.inl rfl));(case Ab=>refine' pgs_cons ?Cb ?Db ?Eb;(case Cb=>refine' pg_name (i:=3) (x:=Str.ofString "places") SC.nd rfl (Or.inl zgo) (.inl rfl));(case Db=>refine' pgs_cons ?Fb pgs_nil ?Gb;(case Fb=>refine' pg_name (i:=4) (x:=Str.ofString "kind") SC.nd rfl (Or.inl zgk) (.inl rfl));case Gb=>rfl);case Eb=>rfl);case Bb=>rfl);(case Va=>rfl);(case Wa=>rfl);case Xa=>rfl);case Sa=>refine' pss_one ?Hb;case Hb=>refine' ps_ret ?Ib;case Ib=>refine' pe_tup ?Jb;case Jb=>refine' pa_cons ?Kb ?Lb ?Mb;(case Kb=>refine' pe_def (hdb:=zd2) D_checked_sign_name (hr.mono (by decide)) zgh ?Nb rfl rfl;case Nb=>refine' pa_cons (pq 2 (visL zgn) zed zee) pa_nil ?Ob;case Ob=>rfl);(case Lb=>refine' pa_cons ?Pb ?Qb ?Rb;(case Pb=>refine' pe_def (hdb:=zd1) D_checked_places (hr.mono (by decide)) zgg ?Sb rfl rfl;case Sb=>refine' pa_cons (pq 0 (visL zgl) zeb zec) ?Tb ?Ub;(case Tb=>refine' pa_cons (pq 3 (visL zgo) zeh zei) pa_nil ?Vb;case Vb=>rfl);case Ub=>rfl);(case Qb=>refine' pa_cons ?Wb pa_nil ?Xb;(case Wb=>refine' pe_def (hdb:=zd0) D_checked_kind (hr.mono (by decide)) zgf ?Yb rfl rfl;case Yb=>refine' pa_cons (pq 0 (visL zgl) zeb zec) ?Zb ?Ac;(case Zb=>refine' pa_cons (pq 4 (visL zgk) zd9 zea) pa_nil ?Bc;case Bc=>rfl);case Ac=>rfl);case Xb=>rfl);case Rb=>rfl);case Mb=>rfl
  refine⟨_,rfl,b,_,rfl,hB,fun H1 s1=>⟨true,rfl,iteF ?_⟩⟩
  refine⟨_,rfl,b,_,rfl,(hB.same s1).sq,rfl,_,rfl,ifF (by simp) ?_⟩
  refine⟨_,rfl,b,_,rfl,(hB.same s1).sq,rfl,_,_,rfl,_,_,rfl,_,_,rfl,rfl,?_⟩
  refine⟨_,rfl,nm,rfl,hs,fun H2 s2=>?_⟩
  have s02:=s1.trans s2
  refine⟨_,rfl,_,rfl,a,c,ks,ps,rfl,hA.same s02,hnm,hC.same s02,h2,hin,fun u H3 hu s3=>?_⟩
  have s03:=s02.trans s3
  refine⟨_,rfl,_,rfl,a,ks,kd,rfl,hA.same s03,hnm kd hkd,hkd,fun H4 s4=>?_⟩
  refine⟨by show 3≤sizeLine; decide,fun t ht=>?_⟩
  exact q t u _ upd_same (same_new ht _ _ _ (s4 _ _ hu)) ((s03.trans s4).trans (same_new ht _))
end
theorem zgp:LD "MOST_SIGNS":=by decide +kernel
theorem zgq:LD "checked_function":=by decide +kernel
theorem zgr:LD "checked_kinds":=by decide +kernel
theorem zgs:LD "checked_tie":=by decide +kernel
theorem zgt:LD "functions":=by decide +kernel
theorem zgu:LS "functions":=by decide +kernel
theorem zgv:LD "self":=by decide +kernel
theorem zgw:LS "self":=by decide +kernel
theorem zgx:LD "ties":=by decide +kernel
theorem zgy:LS "ties":=by decide +kernel
def SignsAt (C:Addr) (H:Hp) (x:Addr) (ks:List Str) (ts:List TieR) (fs:List FunR):Prop:=
 ∃ dx kt tt ft tv fv,H x=some (.ins C dx (flF kt tt ft))∧H kt=some (.tup (ks.map V.str))∧H tt=some (.tup tv)∧RdA Any H tv (ts.map tieT)∧H ft=some (.tup fv)∧RdA Any H fv (fs.map funT)
theorem strs_tup:∀ ws:List Str,tupOnlyA (strsD ws)=true
 | []=>rfl
 | x::r=>by
  show (tupOnly (PyData.str x)&&tupOnlyA (strsD r))=true
  rw [strs_tup r]; rfl
theorem tieT_tup (t:TieR):tupOnly (tieT t)=true:=by
 show (true&&(tupOnlyA (strsD t.ps)&&true))=true
 rw [strs_tup]; rfl
theorem funT_tup (t:FunR):tupOnly (funT t)=true:=by
 show (true&&(tupOnlyA (strsD t.ps)&&(true&&true)))=true
 rw [strs_tup]; rfl
theorem ties_tup:∀ ts:List TieR,tupOnlyA (ts.map tieT)=true
 | []=>rfl
 | x::r=>by
  show (tupOnly (tieT x)&&tupOnlyA (r.map tieT))=true
  rw [ties_tup r,tieT_tup]; rfl
theorem funs_tup:∀ ts:List FunR,tupOnlyA (ts.map funT)=true
 | []=>rfl
 | x::r=>by
  show (tupOnly (funT x)&&tupOnlyA (r.map funT))=true
  rw [funs_tup r,funT_tup]; rfl
theorem SignsAt.keep {C:Addr} {H H':Hp} {x:Addr} {ks:List Str} {ts:List TieR} {fs:List FunR} (h:SignsAt C H x ks ts fs) (hx:∀ o,H x=some o→H' x=some o) (ht:Tups H H'):SignsAt C H' x ks ts fs:=by
 obtain⟨dx,kt,tt,ft,tv,fv,h1,h2,h3,h4,h5,h6⟩:=h
 exact⟨dx,kt,tt,ft,tv,fv,hx _ h1,ht _ _ h2,ht _ _ h3,h4.monoT (fun _ z=>z) ht (ties_tup ts),ht _ _ h5,h6.monoT (fun _ z=>z) ht (funs_tup fs)⟩
def nmD:PyData→Str
 | .tuple (.str n::_)=>n
 | _=>Str.empty
theorem nm_ties (ts:List TieR):(ts.map tieT).map nmD=ts.map (·.nm):=by rw [List.map_map]; rfl
theorem nm_funs (ts:List FunR):(ts.map funT).map nmD=ts.map (·.nm):=by rw [List.map_map]; rfl
theorem rows_nm {ts:List TieR} {fs:List FunR} {d:PyData} (h:d∈ts.map tieT++fs.map funT):∃ r,d=.tuple (.str (nmD d)::r):=by
 rcases List.mem_append.mp h with h | h
 ·obtain⟨t,_,rfl⟩:=List.mem_map.mp h
  exact⟨_,rfl⟩
 ·obtain⟨t,_,rfl⟩:=List.mem_map.mp h
  exact⟨_,rfl⟩
section
variable {P:Program} {w:World} {K:PySem.W.Frag} {mg:Str→Option Value} {base:Heap}
abbrev s_kinds:Stmt:=inClass (top 29) 1
theorem zgz:FnScope ["self"] ["self"] (defScope s_kinds):=⟨rfl,rfl,rfl,by decide +kernel,rfl,by decide +kernel,by decide +kernel⟩
theorem zg0:LN .globalImplicit s_kinds "list":=by decide +kernel
theorem zg1:LN .local s_kinds "self":=by decide +kernel
def spTellK (C:Addr):Sp:=fun vs H Q _=>∃ (x:Addr) (ks:List Str) (ts:List TieR) (fs:List FunR),vs=[.ref x]∧SignsAt C H x ks ts fs∧∀ l,H l=none→Q (.ref l) (upd H l (.lst (ks.map V.str)))
theorem ok_tellK {f C:Addr} {fd:FuncData} (F:Fun K "kinds" "Signs.kinds" s_kinds f fd) (Z:Bl mg) (T:ClS K C):FnOk P w K mg base CX0 1 f fd ["self"] (spTellK C):=by
 have SC:=zgz
 refine F.ok zgz (fun vs H Q E h=>?_) (fun cdv A outer s H vs Q E hr h=>?_)
 ·obtain⟨x,ks,ts,fs,rfl,_⟩:=h
  rfl
 ·obtain⟨x,ks,ts,fs,rfl,⟨dx,kt,tt,ft,tv,fv,h1,h2,h3,h4,h5,h6⟩,q⟩:=h
  refine'⟨_,?derivation,?_⟩
  case derivation=>refine' pss_one ?Aa;case Aa=>refine' ps_ret ?Ba;case Ba=>refine' pe_callTy (hn:=zby) (hdb:=zbx) ?Ca zg0 Z.n_list bt_list ?Da rfl rfl;(case Ca=>exact call_list_of);case Da=>refine' pa_cons ?Ea pa_nil ?Fa;(case Ea=>refine' pe_fld (pq 0 (visL zg1) zgv zgw) rfl);case Fa=>rfl
  exact⟨_,rfl,x,C,dx,_,_,rfl,h1,T.cl,T.nK,flF_kinds _ _ _,kt,_,rfl,.inr (SqT.of h2),q⟩
abbrev s_ties:Stmt:=inClass (top 29) 2
theorem zg2:FnScope ["self"] ["self"] (defScope s_ties):=⟨rfl,rfl,rfl,by decide +kernel,rfl,by decide +kernel,by decide +kernel⟩
theorem zg3:LN .globalImplicit s_ties "list":=by decide +kernel
theorem zg4:LN .local s_ties "self":=by decide +kernel
def spTellT (C:Addr):Sp:=fun vs H Q _=>∃ (x:Addr) (ks:List Str) (ts:List TieR) (fs:List FunR),vs=[.ref x]∧SignsAt C H x ks ts fs∧∀ l tv,H l=none→RdA Any H tv (ts.map tieT)→Q (.ref l) (upd H l (.lst tv))
theorem ok_tellT {f C:Addr} {fd:FuncData} (F:Fun K "ties" "Signs.ties" s_ties f fd) (Z:Bl mg) (T:ClS K C):FnOk P w K mg base CX0 1 f fd ["self"] (spTellT C):=by
 have SC:=zg2
 refine F.ok zg2 (fun vs H Q E h=>?_) (fun cdv A outer s H vs Q E hr h=>?_)
 ·obtain⟨x,ks,ts,fs,rfl,_⟩:=h
  rfl
 ·obtain⟨x,ks,ts,fs,rfl,⟨dx,kt,tt,ft,tv,fv,h1,h2,h3,h4,h5,h6⟩,q⟩:=h
  refine'⟨_,?derivation,?_⟩
  case derivation=>refine' pss_one ?Aa;case Aa=>refine' ps_ret ?Ba;case Ba=>refine' pe_callTy (hn:=zby) (hdb:=zbx) ?Ca zg3 Z.n_list bt_list ?Da rfl rfl;(case Ca=>exact call_list_of);case Da=>refine' pa_cons ?Ea pa_nil ?Fa;(case Ea=>refine' pe_fld (pq 0 (visL zg4) zgv zgw) rfl);case Fa=>rfl
  exact⟨_,rfl,x,C,dx,_,_,rfl,h1,T.cl,T.nT,flF_ties _ _ _,tt,_,rfl,.inr (SqT.of h3),fun l hl=>q l tv hl h4⟩
abbrev s_functions:Stmt:=inClass (top 29) 3
theorem zg5:FnScope ["self"] ["self"] (defScope s_functions):=⟨rfl,rfl,rfl,by decide +kernel,rfl,by decide +kernel,by decide +kernel⟩
theorem zg6:LN .globalImplicit s_functions "list":=by decide +kernel
theorem zg7:LN .local s_functions "self":=by decide +kernel
def spTellF (C:Addr):Sp:=fun vs H Q _=>∃ (x:Addr) (ks:List Str) (ts:List TieR) (fs:List FunR),vs=[.ref x]∧SignsAt C H x ks ts fs∧∀ l fv,H l=none→RdA Any H fv (fs.map funT)→Q (.ref l) (upd H l (.lst fv))
theorem ok_tellF {f C:Addr} {fd:FuncData} (F:Fun K "functions" "Signs.functions" s_functions f fd) (Z:Bl mg) (T:ClS K C):FnOk P w K mg base CX0 1 f fd ["self"] (spTellF C):=by
 have SC:=zg5
 refine F.ok zg5 (fun vs H Q E h=>?_) (fun cdv A outer s H vs Q E hr h=>?_)
 ·obtain⟨x,ks,ts,fs,rfl,_⟩:=h
  rfl
 ·obtain⟨x,ks,ts,fs,rfl,⟨dx,kt,tt,ft,tv,fv,h1,h2,h3,h4,h5,h6⟩,q⟩:=h
  refine'⟨_,?derivation,?_⟩
  case derivation=>refine' pss_one ?Aa;case Aa=>refine' ps_ret ?Ba;case Ba=>refine' pe_callTy (hn:=zby) (hdb:=zbx) ?Ca zg6 Z.n_list bt_list ?Da rfl rfl;(case Ca=>exact call_list_of);case Da=>refine' pa_cons ?Ea pa_nil ?Fa;(case Ea=>refine' pe_fld (pq 0 (visL zg7) zgv zgw) rfl);case Fa=>rfl
  exact⟨_,rfl,x,C,dx,_,_,rfl,h1,T.cl,T.nF,flF_funs _ _ _,ft,_,rfl,.inr (SqT.of h5),fun l hl=>q l fv hl h6⟩
abbrev s__init__:Stmt:=inClass (top 29) 0
theorem zg8:FnScope ["self","kinds","ties","functions"] ["self","kinds","ties","functions"] (defScope s__init__):=⟨rfl,rfl,rfl,by decide +kernel,rfl,by decide +kernel,by decide +kernel⟩
theorem zg9:LN .globalImplicit s__init__ "MOST_SIGNS":=by decide +kernel
theorem zha:LN .globalImplicit s__init__ "check_apart":=by decide +kernel
theorem zhb:LN .globalImplicit s__init__ "checked_kinds":=by decide +kernel
theorem zhc:LN .local s__init__ "functions":=by decide +kernel
theorem zhd:LN .globalImplicit s__init__ "is_list":=by decide +kernel
theorem zhe:LN .local s__init__ "kinds":=by decide +kernel
theorem zhf:LN .globalImplicit s__init__ "len":=by decide +kernel
theorem zhg:LN .cell s__init__ "self":=by decide +kernel
theorem zhh:LN .local s__init__ "ties":=by decide +kernel
theorem zhi:LN .globalImplicit s__init__ "tuple":=by decide +kernel
abbrev QS4:Scope:={kind:=PySem.ScopeKind.function,names:=[(PySem.Str.ofString ".0",PySem.NameKind.local),(PySem.Str.ofString "sign",PySem.NameKind.local)],isGenerator:=false,isCoroutine:=false,more:=[]:PySem.Scope}
theorem zhj:CompSc 1 ["sign","self","kinds","ties","functions"] ["self","kinds","ties","functions"] (defScope s__init__) QS4:=⟨rfl,by decide +kernel,by decide +kernel,by decide +kernel,by decide +kernel,rfl,by decide +kernel⟩
theorem zhk:LC .local QS4 "sign":=by decide +kernel
abbrev QS5:Scope:={kind:=PySem.ScopeKind.function,names:=[ (PySem.Str.ofString ".0",PySem.NameKind.local),(PySem.Str.ofString "function",PySem.NameKind.local),(PySem.Str.ofString "checked_function",PySem.NameKind.globalImplicit),(PySem.Str.ofString "self",PySem.NameKind.free)],isGenerator:=false,isCoroutine:=false,more:=[]:PySem.Scope}
theorem zhl:CompSc 1 ["function","self","kinds","ties","functions"] ["self","kinds","ties","functions"] (defScope s__init__) QS5:=⟨rfl,by decide +kernel,by decide +kernel,by decide +kernel,by decide +kernel,rfl,by decide +kernel⟩
theorem zhm:LC .globalImplicit QS5 "checked_function":=by decide +kernel
theorem zhn:LC .local QS5 "function":=by decide +kernel
theorem zho:LC .free QS5 "self":=by decide +kernel
abbrev QS6:Scope:={kind:=PySem.ScopeKind.function,names:=[ (PySem.Str.ofString ".0",PySem.NameKind.local),(PySem.Str.ofString "tie",PySem.NameKind.local),(PySem.Str.ofString "checked_tie",PySem.NameKind.globalImplicit),(PySem.Str.ofString "self",PySem.NameKind.free)],isGenerator:=false,isCoroutine:=false,more:=[]:PySem.Scope}
theorem zhp:CompSc 1 ["tie","self","kinds","ties","functions"] ["self","kinds","ties","functions"] (defScope s__init__) QS6:=⟨rfl,by decide +kernel,by decide +kernel,by decide +kernel,by decide +kernel,rfl,by decide +kernel⟩
theorem zhq:LC .globalImplicit QS6 "checked_tie":=by decide +kernel
theorem zhr:LC .free QS6 "self":=by decide +kernel
theorem zhs:LC .local QS6 "tie":=by decide +kernel
def spInit (C:Addr):Sp:=fun vs H Q _=>∃ (x dx a b c:Addr) (ab cd:List (Addr×Addr)) (ks:List Str) (ts:List TieR) (fs:List FunR),vs=[.ref x,.ref a,.ref b,.ref c]∧H x=some (.ins C dx [])∧LT H a (ks.map V.str)∧
 LT H b (ab.map fun q=>V.ref q.1)∧Sgs H ab (ts.map tieRow)∧LT H c (cd.map fun q=>V.ref q.1)∧Sgs H cd (fs.map funRow)∧BookOk ks ts fs∧∀ H',SignsAt C H' x ks ts fs→SameX x H H'→Q .non H'
theorem LT.neIns {H:Hp} {a x C dx:Addr} {xs:List V} {fl:List (Str×V)} (h:LT H a xs) (hx:H x=Option.some (.ins C dx fl)):a≠x:=by
 rintro rfl
 rcases h with h | h <;> (rw [h] at hx; cases hx)
theorem ok_init {f C:Addr} {fd:FuncData} (F:Fun K "__init__" "Signs.__init__" s__init__ f fd) (Z:Bl mg) (G:Gs K mg) (T:ClS K C) (D_is_list:Def P w K mg base "is_list" 1 ["thing"] spIsList) (D_checked_kinds:Def P w K mg base "checked_kinds" 2 ["kinds"] spKinds)
  (D_checked_tie:Def P w K mg base "checked_tie" 4 ["kinds","tie"] spTie) (D_checked_function:Def P w K mg base "checked_function" 4 ["kinds","function"] spFunc) (D_check_apart:Def P w K mg base "check_apart" 1 ["names"] spApart) :
  FnOk P w K mg base CX0 5 f fd ["self","kinds","ties","functions"] (spInit C):=by
 have SC:=zg8
 obtain⟨_,g_MOST_SIGNS,r_MOST_SIGNS⟩:=G.msigns
 refine F.ok zg8 (fun vs H Q E h=>?_) (fun cdv A outer s H vs Q E hr h=>?_)
 ·obtain⟨x,dx,a,b,c,ab,cd,ks,ts,fs,rfl,_⟩:=h
  rfl
 ·obtain⟨x,dx,a,b,c,ab,cd,ks,ts,fs,rfl,hx,hA,hB,sB,hC,sC,ok,q⟩:=h
  have nbx:b≠x:=hB.neIns hx
  have ncx:c≠x:=hC.neIns hx
  have abl:ab.length=ts.length:=by rw [sB.length,List.length_map]
  have cdl:cd.length=fs.length:=by rw [sC.length,List.length_map]
  have sl:=ok.sl
  have sgx:∀ {H':Hp} {q:Addr×Addr} {r:RowR},SameX x H H'→SgAt H q r→SgAt H' q r:=fun s g=>⟨g.row.mono fun o e=>s _ _ (g.row.neIns hx) e,g.plc.mono fun o e=>s _ _ (g.plc.neIns hx) e⟩
  refine'⟨_,?derivation,?_⟩
  case derivation=>refine' pss_cons ?Aa ?Ba;(case Aa=>refine' ps_fld (pq 0 (visC zhg) zgv zgw) ?Ca rfl;case Ca=>refine' pe_def (hdb:=zgr) D_checked_kinds (hr.mono (by decide)) zhb ?Da rfl rfl;case Da=>refine' pa_cons (pq 1 (visL zhe) zeb zec) pa_nil ?Ea;case Ea=>rfl);case Ba=>refine' pss_cons ?Fa ?Ga;(case Fa=>refine' ps_if ?Ha ?Ia pss_nil;(case Ha=>refine' PW.pt ?Ja;case Ja=>refine' pw_or ?Ka ?La;(case Ka=>refine' pt_not ?Ma;case Ma=>refine' pt_val ?Na ?Oa;(case Na=>refine' pe_def (hdb:=zd5) D_is_list (hr.mono (by decide)) zhd ?Pa rfl rfl;case Pa=>refine' pa_cons (pq 2 (visL zhh) zgx zgy) pa_nil ?Qa;case Qa=>rfl);case Oa=>intro _; rfl);case La=>refine' pw_or1 ?Ra;case Ra=>refine' pt_not ?Sa;case Sa=>refine' pt_val ?Ta ?Ua;(case Ta=>refine' pe_def (hdb:=zd5) D_is_list (hr.mono (by decide)) zhd ?Va rfl rfl;case Va=>refine' pa_cons (pq 3 (visL zhc) zgt zgu) pa_nil ?Wa;case Wa=>rfl);case Ua=>intro _; rfl);case Ia=>refine' pss_one ps_never);case Ga=>refine' pss_cons ?Xa ?Ya;(case Xa=>refine' ps_if ?Za ?Ab pss_nil;(case Za=>refine' pt_cmpR op_gt ?Bb ?Cb (nomark _);(case Bb=>refine' pe_op op_add ?Db ?Eb;(case Db=>refine' pe_callB (hn:=zbw) (hdb:=zbv) call_len_seq zhf Z.n_len bt_len ?Fb rfl rfl;case Fb=>refine' pa_cons (pq 2 (visL zhh) zgx zgy) pa_nil ?Gb;case Gb=>rfl);case Eb=>refine' pe_callB (hn:=zbw) (hdb:=zbv) call_len_seq zhf Z.n_len bt_len ?Hb rfl rfl;case Hb=>refine' pa_cons (pq 3 (visL zhc) zgt zgu) pa_nil ?Ib;case Ib=>rfl);case Cb=>refine' pe_glob (hd:=zgp) zg9 g_MOST_SIGNS r_MOST_SIGNS);case Ab=>refine' pss_one ps_never);case Ya=>refine' pss_cons ?Jb ?Kb;(case Jb=>refine' ps_fld (pq 0 (visC zhg) zgv zgw) ?Lb rfl;case Lb=>refine' pe_callTy (hn:=zeu) (hdb:=zet) ?Mb zhi Z.n_tuple bt_tuple ?Nb rfl rfl;(case Mb=>exact call_tuple_of);case Nb=>refine' pa_cons ?Ob pa_nil ?Pb;(case Ob=>refine' pe_comp noxe rfl zhp.at ?Qb ?Rb ?Sb ?Tb;(case Qb=>refine' pi_seq (pq 2 (visL zhh) zgx zgy));(case Rb=>intro _ _ _ _ _;refine' pg_name (i:=0) zhp.nd rfl (locO zhs) (.inr (lookup_relabel_local zhs)));(case Sb=>intro _ _ _ _ _;refine' pe_def (hdb:=zgs) D_checked_tie (hr.mono (by decide)) (glO zhq) ?Ub rfl rfl;case Ub=>refine' pa_cons ?Vb ?Wb ?Xb;(case Vb=>refine' pe_fld (pq 1 (visF zhr) zgv zgw) rfl);(case Wb=>refine' pa_cons (pq 0 (visO zhs) zer zes) pa_nil ?Yb;case Yb=>rfl);case Xb=>rfl);case Tb=>intro _; rfl);case Pb=>rfl);case Kb=>refine' pss_cons ?Zb ?Ac;(case Zb=>refine' ps_fld (pq 0 (visC zhg) zgv zgw) ?Bc rfl;case Bc=>refine' pe_callTy (hn:=zeu) (hdb:=zet) ?Cc zhi Z.n_tuple bt_tuple ?Dc rfl rfl;(case Cc=>exact call_tuple_of);case Dc=>refine' pa_cons ?Ec pa_nil ?Fc;(case Ec=>refine' pe_comp noxe rfl zhl.at ?Gc ?Hc ?Ic ?Jc;(case Gc=>refine' pi_seq (pq 3 (visL zhc) zgt zgu));(case Hc=>intro _ _ _ _ _;refine' pg_name (i:=0) zhl.nd rfl (locO zhn) (.inr (lookup_relabel_local zhn)));(case Ic=>intro _ _ _ _ _;refine' pe_def (hdb:=zgq) D_checked_function (hr.mono (by decide)) (glO zhm) ?Kc rfl rfl;case Kc=>refine' pa_cons ?Lc ?Mc ?Nc;(case Lc=>refine' pe_fld (pq 1 (visF zho) zgv zgw) rfl);(case Mc=>refine' pa_cons (pq 0 (visO zhn) zd3 zd4) pa_nil ?Oc;case Oc=>rfl);case Nc=>rfl);case Jc=>intro _; rfl);case Fc=>rfl);case Ac=>refine' pss_one ?Pc;case Pc=>refine' ps_expr ?Qc rfl;case Qc=>refine' pe_def (hdb:=zdz) D_check_apart (hr.mono (by decide)) zha ?Rc rfl rfl;case Rc=>refine' pa_cons ?Sc pa_nil ?Tc;(case Sc=>refine' pe_comp noxe rfl zhj.at ?Uc ?Vc ?Wc ?Xc;(case Uc=>refine' pi_tup ?Yc;case Yc=>refine' pe_op op_catTT ?Zc ?Ad;(case Zc=>refine' pe_fld (pq 0 (visC zhg) zgv zgw) rfl);case Ad=>refine' pe_fld (pq 0 (visC zhg) zgv zgw) rfl);(case Vc=>intro _ _ _ _ _;refine' pg_name (i:=0) zhj.nd rfl (locO zhk) (.inr (lookup_relabel_local zhk)));(case Wc=>intro _ _ _ _ _;refine' pe_ix ix_tup (pq 0 (visO zhk) zel zem) ?Bd ?Cd;(case Bd=>exact pe_int);case Cd=>intro _ _;exact rfl);case Xc=>intro _; rfl);case Tc=>rfl
  refine⟨_,rfl,a,ks,rfl,hA,⟨ok.kn,ok.k1,ok.k4,ok.kn2⟩,fun kt H1 hkt s1=>?_⟩
  refine⟨_,rfl,x,C,dx,_,rfl,s1 _ _ hx,T.cl,T.nK,by decide,?_⟩
  have nkx:kt≠x:=by rintro rfl; rw [s1 _ _ hx] at hkt; cases hkt
  generalize hG2:upd H1 x (.ins C dx (putF "kept_kinds" (.ref kt) []))=H2
  have x2:H2 x=some (.ins C dx (flK kt)):=by rw [← hG2]; exact upd_same
  have k2:H2 kt=some (.tup (ks.map V.str)):=by rw [← hG2,upd_ne nkx]; exact hkt
  have S2:SameX x H H2:=by rw [← hG2]; exact s1.x.trans (SameX.upd x H1 _)
  refine⟨_,rfl,b,_,rfl,hB.mono fun o e=>S2 _ _ nbx e,fun H3 s3=>⟨true,rfl,iteF ?_⟩⟩
  have S3:=S2.same s3
  refine⟨_,rfl,c,_,rfl,hC.mono fun o e=>S3 _ _ ncx e,fun H4 s4=>⟨true,rfl,iteF ?_⟩⟩
  have S4:=S3.same s4
  refine⟨_,rfl,b,_,rfl,(hB.mono fun o e=>S4 _ _ nbx e).sq,_,rfl,c,_,rfl,(hC.mono fun o e=>S4 _ _ ncx e).sq,_,_,rfl,rfl,_,_,rfl,rfl,_,rfl,ifF (by rw [List.length_map,List.length_map]; simp; omega) ?_⟩
  have s24:Same H2 H4:=s3.trans s4
  refine(hB.mono fun o e=>S4 _ _ nbx e).over rfl fun J O=>?_
  intro cl C1 ex s0 H0
  refine O.comp (fun i ys H5=>RdA Any H5 ys ((ts.take i).map tieT)∧Same H4 H5) ⟨.nil,Same.refl _⟩ (by rw [List.length_map]; exact Nat.le_trans (show ab.length≤8 by omega) (by decide)) (fun i ys H5 _ ⟨_,z⟩ o e=>z b o e) ?_ ?_
  ·rintro i y ys H5 hi hy ⟨r5,s5⟩
   rw [List.getElem?_map] at hi
   obtain⟨qq,hq,rfl⟩:=Option.map_eq_some_iff.mp hi
   obtain⟨r,hr',sg⟩:=sB.get hq
   rw [List.getElem?_map] at hr'
   obtain⟨t,ht,rfl⟩:=Option.map_eq_some_iff.mp hr'
   have s25:=s24.trans s5
   have sg5:=sgx (S4.same s5) sg
   refine⟨_,rfl,x,C,dx,_,_,rfl,s25 _ _ x2,T.cl,T.nK,flK_kinds _,_,rfl,kt,qq.1,qq.2,ks,t.ps,t.nm,rfl,.inr (s25 _ _ k2),ok.kn2,sg5.row,sg5.plc,ok.tn t (List.mem_of_getElem? ht),fun tt u H6 h6 h7 s6=>⟨?_,s5.trans s6⟩⟩
   rw [List.take_succ,ht]
   show RdA Any H6 (ys++[.ref tt]) (List.map tieT (ts.take i++[t]))
   rw [List.map_append]
   exact(r5.same s6).snoc (.tup trivial h6 (.cons (.str _) (.cons (.tup trivial h7 (RdA.strs _)) .nil)))
  rintro tv H5 hy ⟨r5,s5⟩ D1 hD1
  rw [List.length_map,abl,List.take_length] at r5
  refine⟨D1,tv,rfl,.inl ⟨SqL.of upd_same,fun tt htt=>?_⟩⟩
  have s6:=(same_new hD1 (.lst tv)).trans (same_new htt (.tup tv))
  have s26:=(s24.trans s5).trans s6
  refine⟨_,rfl,x,C,dx,_,rfl,s26 _ _ x2,T.cl,T.nT,flK_len _,?_⟩
  have tt6:(upd (upd H5 D1 (.lst tv)) tt (.tup tv)) tt=some (.tup tv):=upd_same
  generalize (upd (upd H5 D1 (.lst tv)) tt (.tup tv))=G6 at s6 s26 tt6
  have ntx:tt≠x:=by rintro rfl; rw [s26 _ _ x2] at tt6; cases tt6
  generalize hG7:upd G6 x (.ins C dx (putF "kept_ties" (.ref tt) (flK kt)))=H7
  have x7:H7 x=some (.ins C dx (flT kt tt)):=by rw [← hG7]; exact upd_same
  have S67:SameX x G6 H7:=by rw [← hG7]; exact SameX.upd x G6 _
  have t7:H7 tt=some (.tup tv):=S67 _ _ ntx tt6
  have k7:H7 kt=some (.tup (ks.map V.str)):=S67 _ _ nkx (s26 _ _ k2)
  have S7:SameX x H H7:=(S2.same s26).trans S67
  have T67:Tups G6 H7:=fun p xs e=>S67 p _ (fun z=>by rw [z,s26 _ _ x2] at e; cases e) e
  have r7:RdA Any H7 tv (ts.map tieT):=(r5.same s6).monoT (fun _ z=>z) T67 (ties_tup ts)
  refine(hC.mono fun o e=>S7 _ _ ncx e).over rfl fun J O=>?_
  intro cl C1 ex s0 H0
  refine O.comp (fun i ys H8=>RdA Any H8 ys ((fs.take i).map funT)∧Same H7 H8) ⟨.nil,Same.refl _⟩ (by rw [List.length_map]; exact Nat.le_trans (show cd.length≤8 by omega) (by decide)) (fun i ys H8 _ ⟨_,z⟩ o e=>z c o e) ?_ ?_
  ·rintro i y ys H8 hi hy ⟨r8,s8⟩
   rw [List.getElem?_map] at hi
   obtain⟨qq,hq,rfl⟩:=Option.map_eq_some_iff.mp hi
   obtain⟨r,hr',sg⟩:=sC.get hq
   rw [List.getElem?_map] at hr'
   obtain⟨t,ht,rfl⟩:=Option.map_eq_some_iff.mp hr'
   have sg8:=sgx (S7.same s8) sg
   obtain⟨o1,o2,o3,o4⟩:=ok.fn t (List.mem_of_getElem? ht)
   refine⟨_,rfl,x,C,dx,_,_,rfl,s8 _ _ x7,T.cl,T.nK,flT_kinds _ _,_,rfl,kt,qq.1,qq.2,ks,t.ps,t.nm,t.kd,rfl,.inr (s8 _ _ k7),ok.kn2,sg8.row,sg8.plc,⟨o1,o2,o3⟩,o4,fun tt u H9 h6 h7 s9=>⟨?_,s8.trans s9⟩⟩
   rw [List.take_succ,ht]
   show RdA Any H9 (ys++[.ref tt]) (List.map funT (fs.take i++[t]))
   rw [List.map_append]
   exact(r8.same s9).snoc (.tup trivial h6 (.cons (.str _) (.cons (.tup trivial h7 (RdA.strs _)) (.cons (.str _) .nil))))
  rintro fv H8 hy2 ⟨r8,s8⟩ D2 hD2
  rw [List.length_map,cdl,List.take_length] at r8
  refine⟨D2,fv,rfl,.inl ⟨SqL.of upd_same,fun ft hft=>?_⟩⟩
  have s9:=s8.trans ((same_new hD2 (.lst fv)).trans (same_new hft (.tup fv)))
  have r9:=r8.same ((same_new hD2 (.lst fv)).trans (same_new hft (.tup fv)))
  refine⟨_,rfl,x,C,dx,_,rfl,s9 _ _ x7,T.cl,T.nF,flT_len _ _,?_⟩
  have ft9:(upd (upd H8 D2 (.lst fv)) ft (.tup fv)) ft=some (.tup fv):=upd_same
  generalize (upd (upd H8 D2 (.lst fv)) ft (.tup fv))=G9 at s9 r9 ft9
  have nfx:ft≠x:=by rintro rfl; rw [s9 _ _ x7] at ft9; cases ft9
  generalize hG10:upd G9 x (.ins C dx (putF "kept_functions" (.ref ft) (flT kt tt)))=HA
  have xA:HA x=some (.ins C dx (flF kt tt ft)):=by rw [← hG10]; exact upd_same
  have S9A:SameX x G9 HA:=by rw [← hG10]; exact SameX.upd x G9 _
  have T9A:Tups G9 HA:=fun p xs e=>S9A p _ (fun z=>by rw [z,s9 _ _ x7] at e; cases e) e
  have tA:HA tt=some (.tup tv):=S9A _ _ ntx (s9 _ _ t7)
  have fA:HA ft=some (.tup fv):=S9A _ _ nfx ft9
  have kA:HA kt=some (.tup (ks.map V.str)):=S9A _ _ nkx (s9 _ _ k7)
  have rtA:RdA Any HA tv (ts.map tieT):=(r7.same s9).monoT (fun _ z=>z) T9A (ties_tup ts)
  have rfA:RdA Any HA fv (fs.map funT):=r9.monoT (fun _ z=>z) T9A (funs_tup fs)
  have SA:SameX x H HA:=(S7.same s9).trans S9A
  have tvl:tv.length=ts.length:=by rw [rtA.length,List.length_map]
  have fvl:fv.length=fs.length:=by rw [rfA.length,List.length_map]
  have small:tv.length+fv.length≤sizeLine:=Nat.le_trans (show tv.length+fv.length≤8 by omega) (by decide)
  refine⟨_,rfl,x,C,dx,_,_,rfl,xA,T.cl,T.nT,flF_ties _ _ _,_,rfl,x,C,dx,_,_,rfl,xA,T.cl,T.nF,flF_funs _ _ _,?_⟩
  refine cat_of tA fA small fun p HB hp sB'=>?_
  refine⟨p,rfl,⟨_,SqT.of hp⟩,?_⟩
  have rB:RdA Any HB (tv++fv) (ts.map tieT++fs.map funT):=(rtA.append rfA).same sB'
  intro cl C1 ex s0 H0
  refine comp_it1 (tv++fv).length (fun i ys HC=>ys=(((ts.map tieT++fs.map funT).map nmD).take i).map V.str∧Same HB HC) (fun i y=>(tv++fv)[i]? = some y) ⟨rfl,Same.refl _⟩ (by rw [List.length_append]; exact small) (fun i ys HC hi _ ⟨_,z⟩=>go_tup (SqT.of (z _ _ hp)) hi) (fun ys HC _ ⟨_,z⟩=>stop_tup (SqT.of (z _ _ hp))) ?_ ?_
  ·rintro i y ys HC hi hy _ ⟨rfl,sC'⟩
   obtain⟨d,hd,rd⟩:=rB.getV hy
   obtain⟨rr,e⟩:=rows_nm (List.mem_of_getElem? hd)
   rw [e] at rd
   obtain⟨py,px,rfl,_,hpy,hpx⟩:=rd.tuple_inv
   cases hpx with | cons a1 t1=>
   obtain rfl:=a1.str_inv
   refine⟨_,rfl,py,_,_,_,rfl,rfl,SqT.of (sC' _ _ hpy),atI_int (x:=V.str (nmD d)) (by decide) rfl,?_,sC'⟩
   rw [List.take_succ,List.getElem?_map,hd]
   exact(List.map_append (l₂:=[nmD d])).symm
  rintro ys HC hyl ⟨rfl,sC'⟩ D3 hD3
  have el:(((ts.map tieT++fs.map funT).map nmD).take (tv++fv).length)=ts.map (·.nm)++fs.map (·.nm):=by
   rw [List.map_append,nm_ties,nm_funs,List.take_of_length_le]
   simp [tvl,fvl]
  rw [el]
  refine⟨D3,_,rfl,.inl upd_same,ok.sn,by simp; omega,fun HD sD=>?_⟩
  have sAD:Same HA HD:=(sB'.trans sC').trans ((same_new hD3 _).trans sD)
  refine q HD ⟨dx,kt,tt,ft,tv,fv,sAD _ _ xA,sAD _ _ kA,sAD _ _ tA,rtA.same sAD,sAD _ _ fA,rfA.same sAD⟩ (SA.same sAD)
end
end Few
namespace L2
open PySem PySem.Spec PyProof.Rows
end L2
namespace Few
open PySem L2
inductive Tr where
 | leaf (x:Str)
 | node (ts:List Tr)
mutual
inductive Mix (H:Hp):V→Tr→Prop where
 | leaf (x:Str):Mix H (.str x) (.leaf x)
 | node {a:Addr} {xs:List V} {ts:List Tr}:LT H a xs→MixA H xs ts→Mix H (.ref a) (.node ts)
inductive MixA (H:Hp):List V→List Tr→Prop where
 | nil:MixA H [] []
 | cons {x:V} {xs:List V} {t:Tr} {ts:List Tr}:Mix H x t→MixA H xs ts→MixA H (x::xs) (t::ts)
end
mutual
inductive Tup (H:Hp):V→Tr→Prop where
 | leaf (x:Str):Tup H (.str x) (.leaf x)
 | node {a:Addr} {xs:List V} {ts:List Tr}:H a=some (.tup xs)→TupA H xs ts→Tup H (.ref a) (.node ts)
inductive TupA (H:Hp):List V→List Tr→Prop where
 | nil:TupA H [] []
 | cons {x:V} {xs:List V} {t:Tr} {ts:List Tr}:Tup H x t→TupA H xs ts→TupA H (x::xs) (t::ts)
end
mutual
theorem mix_same {H H':Hp} (s:Same H H'):∀ {v:V} {t:Tr},Mix H v t→Mix H' v t
 | _,_,.leaf x=>.leaf x
 | _,_,.node h r=>.node (h.same s) (mixA_same s r)
theorem mixA_same {H H':Hp} (s:Same H H'):∀ {v:List V} {t:List Tr},MixA H v t→MixA H' v t
 | _,_,.nil=>.nil
 | _,_,.cons a r=>.cons (mix_same s a) (mixA_same s r)
end
mutual
theorem tup_keep {H H':Hp} (s:Tups H H'):∀ {v:V} {t:Tr},Tup H v t→Tup H' v t
 | _,_,.leaf x=>.leaf x
 | _,_,.node h r=>.node (s _ _ h) (tupA_keep s r)
theorem tupA_keep {H H':Hp} (s:Tups H H'):∀ {v:List V} {t:List Tr},TupA H v t→TupA H' v t
 | _,_,.nil=>.nil
 | _,_,.cons a r=>.cons (tup_keep s a) (tupA_keep s r)
end
mutual
theorem tup_mix {H:Hp}:∀ {v:V} {t:Tr},Tup H v t→Mix H v t
 | _,_,.leaf x=>.leaf x
 | _,_,.node h r=>.node (.inr h) (tupA_mix r)
theorem tupA_mix {H:Hp}:∀ {v:List V} {t:List Tr},TupA H v t→MixA H v t
 | _,_,.nil=>.nil
 | _,_,.cons a r=>.cons (tup_mix a) (tupA_mix r)
end
theorem MixA.length {H:Hp}:∀ {v:List V} {t:List Tr},MixA H v t→v.length=t.length
 | _,_,.nil=>rfl
 | _,_,.cons _ r=>by rw [List.length_cons,List.length_cons,MixA.length r]
theorem TupA.length {H:Hp}:∀ {v:List V} {t:List Tr},TupA H v t→v.length=t.length
 | _,_,.nil=>rfl
 | _,_,.cons _ r=>by rw [List.length_cons,List.length_cons,TupA.length r]
theorem MixA.get {H:Hp}:∀ {v:List V} {t:List Tr} {i:Nat} {x:V},MixA H v t→v[i]? = some x→∃ y,t[i]? = some y∧Mix H x y
 | _,_,_,_,.nil,h=>by simp at h
 | _,_,0,_,.cons a _,h=>by simp at h; subst h; exact⟨_,rfl,a⟩
 | _,_,i+1,_,.cons _ r,h=>by simpa using MixA.get (i:=i) r (by simpa using h)
theorem TupA.snoc {H:Hp} {x:V} {y:Tr}:∀ {v:List V} {t:List Tr},TupA H v t→Tup H x y→TupA H (v++[x]) (t++[y])
 | _,_,.nil,h=>.cons h .nil
 | _,_,.cons a r,h=>.cons a (TupA.snoc r h)
mutual
inductive IsTm (fs:List FunR) (sc:Str→Option Str):Tr→Str→Prop where
 | var {x k:Str}:sc x=some k→IsTm fs sc (.leaf x) k
 | app {f:FunR} {ts:List Tr}:f∈fs→IsTms fs sc ts f.ps→IsTm fs sc (.node (.leaf f.nm::ts)) f.kd
inductive IsTms (fs:List FunR) (sc:Str→Option Str):List Tr→List Str→Prop where
 | nil:IsTms fs sc [] []
 | cons {t:Tr} {k:Str} {ts:List Tr} {ks:List Str}:IsTm fs sc t k→IsTms fs sc ts ks→IsTms fs sc (t::ts) (k::ks)
end
def scPut (sc:Str→Option Str) (x k:Str):Str→Option Str:=fun y=>if y=x then some k else sc y
mutual
inductive IsSy (ks:List Str) (ts:List TieR) (fs:List FunR):(Str→Option Str)→Tr→Prop where
 | eq {sc:Str→Option Str} {a b:Tr} {k:Str}:IsTm fs sc a k→IsTm fs sc b k→IsSy ks ts fs sc (.node [.leaf "=",a,b])
 | not {sc:Str→Option Str} {a:Tr}:IsSy ks ts fs sc a→IsSy ks ts fs sc (.node [.leaf "not",a])
 | conn {sc:Str→Option Str} {w:Str} {l:List Tr}:w="and"∨w="or"→l.length≤50→IsSys ks ts fs sc l→IsSy ks ts fs sc (.node (.leaf w::l))
 | bind {sc:Str→Option Str} {w x k:Str} {a:Tr}:w="all"∨w="some"→isNm x→k∈ks→IsSy ks ts fs (scPut sc x k) a→IsSy ks ts fs sc (.node [.leaf w,.leaf x,.leaf k,a])
 | tie {sc:Str→Option Str} {t:TieR} {l:List Tr}:t∈ts→IsTms fs sc l t.ps→IsSy ks ts fs sc (.node (.leaf t.nm::l))
inductive IsSys (ks:List Str) (ts:List TieR) (fs:List FunR):(Str→Option Str)→List Tr→Prop where
 | nil {sc:Str→Option Str}:IsSys ks ts fs sc []
 | cons {sc:Str→Option Str} {a:Tr} {l:List Tr}:IsSy ks ts fs sc a→IsSys ks ts fs sc l→IsSys ks ts fs sc (a::l)
end
mutual
def dep:Tr→Nat
 | .leaf _=>0
 | .node ts=>1+depA ts
def depA:List Tr→Nat
 | []=>0
 | t::ts=>max (dep t) (depA ts)
end
theorem depA_mem {t:Tr}:∀ {ts:List Tr},t∈ts→dep t≤depA ts
 | x::r,h=>by
  show dep t≤max (dep x) (depA r)
  rcases List.mem_cons.mp h with rfl | h
  ·exact Nat.le_max_left _ _
  ·exact Nat.le_trans (depA_mem h) (Nat.le_max_right _ _)
theorem IsTms.length {fs:List FunR} {sc:Str→Option Str}:∀ {ts:List Tr} {ks:List Str},IsTms fs sc ts ks→ts.length=ks.length
 | _,_,.nil=>rfl
 | _,_,.cons _ r=>by rw [List.length_cons,List.length_cons,IsTms.length r]
theorem IsTms.get {fs:List FunR} {sc:Str→Option Str}:∀ {ts:List Tr} {ks:List Str} {i:Nat} {t:Tr} {k:Str},IsTms fs sc ts ks→ts[i]? = some t→ks[i]? = some k→IsTm fs sc t k
 | _,_,_,_,_,.nil,h,_=>by simp at h
 | _,_,0,_,_,.cons a _,h,g=>by simp at h g; subst h g; exact a
 | _,_,i+1,_,_,.cons _ r,h,g=>IsTms.get (i:=i) r (by simpa using h) (by simpa using g)
def ScAt (H:Hp) (a:Addr) (sc:Str→Option Str):Prop:=∃ kvs:List (Key×V),H a=some (.dK kvs)∧kvs.length≤100∧∀ x:Str,valV kvs (.inr x)=(sc x).map V.str
theorem ScAt.same {H H':Hp} {a:Addr} {sc:Str→Option Str} (h:ScAt H a sc) (s:Same H H'):ScAt H' a sc:=let ⟨kvs,e,r⟩:=h; ⟨kvs,s _ _ e,r⟩
theorem zht:LD "check_many":=by decide +kernel
theorem zhu:LD "checked_row":=by decide +kernel
theorem zhv:LD "checked_term":=by decide +kernel
theorem zhw:LD "many":=by decide +kernel
theorem zhx:LS "many":=by decide +kernel
theorem zhy:LD "place":=by decide +kernel
theorem zhz:LS "place":=by decide +kernel
theorem zh0:LD "room":=by decide +kernel
theorem zh1:LS "room":=by decide +kernel
theorem zh2:LD "row":=by decide +kernel
theorem zh3:LS "row":=by decide +kernel
theorem zh4:LD "scope":=by decide +kernel
theorem zh5:LS "scope":=by decide +kernel
theorem zh6:LD "table":=by decide +kernel
theorem zh7:LS "table":=by decide +kernel
theorem zh8:LD "term":=by decide +kernel
theorem zh9:LS "term":=by decide +kernel
theorem zia:LD "things":=by decide +kernel
theorem zib:LS "things":=by decide +kernel
theorem zic:LD "word":=by decide +kernel
theorem zid:LS "word":=by decide +kernel
theorem zie:LD "word_and_things":=by decide +kernel
theorem nt_tk:¬ (("tie_places":Str)="known_kinds"):=by decide +kernel
theorem nt_pk:¬ (("function_places":Str)="known_kinds"):=by decide +kernel
theorem nt_pt:¬ (("function_places":Str)="tie_places"):=by decide +kernel
theorem nt_kk:¬ (("function_kinds":Str)="known_kinds"):=by decide +kernel
theorem nt_kt:¬ (("function_kinds":Str)="tie_places"):=by decide +kernel
theorem nt_kp:¬ (("function_kinds":Str)="function_places"):=by decide +kernel
def fa1 (a:Addr):List (Str×V):=putF "known_kinds" (.ref a) []
def fa2 (a b:Addr):List (Str×V):=putF "tie_places" (.ref b) (fa1 a)
def fa3 (a b c:Addr):List (Str×V):=putF "function_places" (.ref c) (fa2 a b)
def fa4 (a b c d:Addr):List (Str×V):=putF "function_kinds" (.ref d) (fa3 a b c)
theorem fa4_1 (a b c d:Addr):(fa4 a b c d).lookup ("known_kinds":Str)=some (.ref a):=by
 unfold fa4 fa3 fa2 fa1
 rw [lookup_putF,if_neg (fun z=>nt_kk z.symm),lookup_putF,if_neg (fun z=>nt_pk z.symm),lookup_putF,if_neg (fun z=>nt_tk z.symm),lookup_putF,if_pos rfl]
theorem fa4_2 (a b c d:Addr):(fa4 a b c d).lookup ("tie_places":Str)=some (.ref b):=by
 unfold fa4 fa3 fa2
 rw [lookup_putF,if_neg (fun z=>nt_kt z.symm),lookup_putF,if_neg (fun z=>nt_pt z.symm),lookup_putF,if_pos rfl]
theorem fa4_3 (a b c d:Addr):(fa4 a b c d).lookup ("function_places":Str)=some (.ref c):=by
 unfold fa4 fa3
 rw [lookup_putF,if_neg (fun z=>nt_kp z.symm),lookup_putF,if_pos rfl]
theorem fa4_4 (a b c d:Addr):(fa4 a b c d).lookup ("function_kinds":Str)=some (.ref d):=by
 unfold fa4
 rw [lookup_putF,if_pos rfl]
structure ClT (K:PySem.W.Frag) (C:Addr):Prop where
 cl:Cls K C
 n1:NoAttr K C "known_kinds"
 n2:NoAttr K C "tie_places"
 n3:NoAttr K C "function_places"
 n4:NoAttr K C "function_kinds"
def TabAt (C:Addr) (H:Hp) (x:Addr) (ks:List Str) (ts:List TieR) (fs:List FunR):Prop:=
 ∃ (dx a b c d:Addr) (tp fp fk:List (Key×V)),H x=some (.ins C dx (fa4 a b c d))∧H a=some (.lst (ks.map V.str))∧H b=some (.dK tp)∧H c=some (.dK fp)∧H d=some (.dK fk)∧
  (∀ t∈ts,∃ q,valV tp (.inr t.nm)=some (.ref q)∧H q=some (.tup (t.ps.map V.str)))∧(∀ t∈fs,∃ q,valV fp (.inr t.nm)=some (.ref q)∧H q=some (.tup (t.ps.map V.str)))∧∀ t∈fs,valV fk (.inr t.nm)=some (.str t.kd)
theorem TabAt.same {C:Addr} {H H':Hp} {x:Addr} {ks:List Str} {ts:List TieR} {fs:List FunR} (h:TabAt C H x ks ts fs) (s:Same H H'):TabAt C H' x ks ts fs:=by
 obtain⟨dx,a,b,c,d,tp,fp,fk,h1,h2,h3,h4,h5,h6,h7,h8⟩:=h
 refine⟨dx,a,b,c,d,tp,fp,fk,s _ _ h1,s _ _ h2,s _ _ h3,s _ _ h4,s _ _ h5,fun t ht=>?_,fun t ht=>?_,h8⟩
 ·obtain⟨q,e1,e2⟩:=h6 t ht; exact⟨q,e1,s _ _ e2⟩
 ·obtain⟨q,e1,e2⟩:=h7 t ht; exact⟨q,e1,s _ _ e2⟩
theorem Mix.inv {H:Hp} {v:V} {x:Str} {ts:List Tr} (h:Mix H v (.node (.leaf x::ts))):∃ a ys,v=.ref a∧LT H a (.str x::ys)∧MixA H ys ts:=by
 cases h with
 | node hL hA=>
  cases hA with
  | cons h1 hA=>
   cases h1
   exact⟨_,_,rfl,hL,hA⟩
theorem rIx_seq {K:PySem.W.Frag} {H:Hp} {a:Addr} {xs:List V} {i:Int} {v:V} {Q:VK} (h:SqL K H a xs∨SqT K H a xs) (hv:atI xs i=some v) (q:Q v H):rIx K (.ref a) (.int i) H Q:=
 h.elim (fun h=>.inl ⟨a,xs,i,v,rfl,rfl,h,hv,q⟩) fun h=>.inr (.inl ⟨a,xs,i,v,rfl,rfl,h,hv,q⟩)
theorem for_zip {K:PySem.W.Frag} {a b:Addr} {xs ys:List V} {g:TG} {tb:TS} {D:Ends} {σ:St} {H:Hp} (hlen:xs.length=ys.length) (Pv:Nat→St→Hp→Prop) (h0:Pv 0 σ H) (hl:∀ i σ H,i≤xs.length→Pv i σ H→SqL K H a xs∧SqT K H b ys)
  (hs:∀ i x y σ H p,xs[i]? = some x→ys[i]? = some y→H p=none→Pv i σ H→g (.ref p) σ (upd H p (.tup [x,y])) fun σ2 H2=>tb {D with nx:=Pv (i+1),ct:=Pv (i+1),bk:=D.nx} σ2 H2) (hd:∀ σ H,Pv xs.length σ H→D.nx σ H) :
  ∃ W:Nat→Nat→St→Hp→Prop,(∃ m,W 0 m σ H)∧∀ i m σ H,W i m σ H→
   ((Itz K a b).stop i H∧D.nx σ H)∨((Itz K a b).go i H∧∃ N:St→Hp→Prop,(∀ σ' H',N σ' H'→∃ m',m'<m∧W (i+1) m' σ' H')∧∀ x H',(Itz K a b).yld i H x H'→g x σ H' fun σ2 H2=>tb {D with nx:=N,ct:=N,bk:=D.nx} σ2 H2):=by
 refine⟨fun i m σ H=>m=xs.length-i∧i≤xs.length∧Pv i σ H,⟨xs.length,by simp,Nat.zero_le _,h0⟩,?_⟩
 rintro i m σ H ⟨rfl,hi,p⟩
 obtain⟨q1,q2⟩:=hl i σ H hi p
 by_cases hlt:i<xs.length
 ·refine .inr ⟨⟨xs,ys,xs[i],ys[i],q1,q2,by simp [hlt],by simp [hlen▸hlt]⟩,Pv (i+1),fun σ' H' p'=>⟨xs.length - (i+1),by omega,rfl,hlt,p'⟩,fun x H' y=>?_⟩
  obtain⟨pp,x',y',hp,rfl,rfl,e1,e2⟩:=y
  exact hs i x' y' σ H pp (e1 xs q1) (e2 ys q2) hp p
 ·have e:i=xs.length:=by omega
  subst e
  exact .inl ⟨⟨xs,ys,q1,q2,Nat.le_refl _⟩,hd σ H p⟩
section
variable {P:Program} {w:World} {K:PySem.W.Frag} {mg:Str→Option Value} {base:Heap}
abbrev s_check_many:Stmt:=top 19
theorem zif:FnScope ["things","many"] ["things","many"] (defScope s_check_many):=⟨rfl,rfl,rfl,by decide +kernel,rfl,by decide +kernel,by decide +kernel⟩
theorem zig:LN .globalImplicit s_check_many "len":=by decide +kernel
theorem zih:LN .local s_check_many "many":=by decide +kernel
theorem zii:LN .local s_check_many "things":=by decide +kernel
def spCheckMany:Sp:=fun vs H Q _=>∃ (a:Addr) (xs:List V),vs=[.ref a,.int xs.length]∧H a=some (.lst xs)∧Q .non H
theorem ok_check_many (F:FunAt K mg "check_many" s_check_many ["things","many"]) (Z:Bl mg):Def P w K mg base "check_many" 1 ["things","many"] spCheckMany:=by
 have SC:=zif
 refine F.mk' (k:=0) zif (fun vs H Q E h=>?_) (fun f cdv A outer s H vs Q E hr h=>?_)
 ·obtain⟨a,xs,rfl,_⟩:=h
  rfl
 ·obtain⟨a,xs,rfl,ha,q⟩:=h
  refine'⟨_,?derivation,?_⟩
  case derivation=>refine' pss_one ?Aa;case Aa=>refine' ps_if ?Ba ?Ca pss_nil;(case Ba=>refine' pt_cmpR op_ne ?Da (pq 1 (visL zih) zhw zhx) (nomark _);case Da=>refine' pe_callB (hn:=zbw) (hdb:=zbv) call_len_seq zig Z.n_len bt_len ?Ea rfl rfl;case Ea=>refine' pa_cons (pq 0 (visL zii) zia zib) pa_nil ?Fa;case Fa=>rfl);case Ca=>refine' pss_one ps_never
  exact⟨_,rfl,a,_,rfl,.inl (SqL.of ha),_,rfl,rfl,_,rfl,ifF (by simp) q⟩
abbrev s_word_and_things:Stmt:=top 18
theorem zij:FnScope ["thing","room","word","things"] ["thing","room"] (defScope s_word_and_things):=⟨rfl,rfl,rfl,by decide +kernel,rfl,by decide +kernel,by decide +kernel⟩
theorem zik:LN .globalImplicit s_word_and_things "is_list":=by decide +kernel
theorem zil:LN .globalImplicit s_word_and_things "isinstance":=by decide +kernel
theorem zim:LN .globalImplicit s_word_and_things "len":=by decide +kernel
theorem zin:LN .local s_word_and_things "room":=by decide +kernel
theorem zio:LN .globalImplicit s_word_and_things "str":=by decide +kernel
theorem ziq:LN .local s_word_and_things "thing":=by decide +kernel
theorem zir:LN .local s_word_and_things "things":=by decide +kernel
theorem zis:LN .local s_word_and_things "word":=by decide +kernel
def spWord:Sp:=fun vs H Q _=>∃ (v:V) (x:Str) (ts:List Tr) (r:Int),vs=[v,.int r]∧Mix H v (.node (.leaf x::ts))∧0<r∧
 ∀ p l xs H',H' p=some (.tup [.str x,.ref l])→H' l=some (.lst xs)→MixA H' xs ts→Same H H'→Q (.ref p) H'
theorem ok_word (F:FunAt K mg "word_and_things" s_word_and_things ["thing","room"]) (Z:Bl mg) (D_is_list:Def P w K mg base "is_list" 1 ["thing"] spIsList):Def P w K mg base "word_and_things" 2 ["thing","room"] spWord:=by
 have SC:=zij
 refine F.mk' (k:=1) zij (fun vs H Q E h=>?_) (fun f cdv A outer s H vs Q E hr h=>?_)
 ·obtain⟨v,x,ts,r,rfl,_⟩:=h
  rfl
 ·obtain⟨v,x,ts,r,rfl,hm,hr0,q⟩:=h
  obtain⟨a,ys,rfl,hL,hA⟩:=hm.inv
  refine'⟨_,?derivation,?_⟩
  case derivation=>refine' pss_cons ?Aa ?Ba;(case Aa=>refine' ps_if ?Ca ?Da pss_nil;(case Ca=>refine' PW.pt ?Ea;case Ea=>refine' pw_or ?Fa ?Ga;(case Fa=>refine' pt_cmpR op_eq (pq 1 (visL zin) zh0 zh1) ?Ha (nomark _);case Ha=>exact pe_int);case Ga=>refine' pw_or ?Ia ?Ja;(case Ia=>refine' pt_not ?Ka;case Ka=>refine' pt_val ?La ?Ma;(case La=>refine' pe_def (hdb:=zd5) D_is_list (hr.mono (by omega)) zik ?Na rfl rfl;case Na=>refine' pa_cons (pq 0 (visL ziq) zep zeq) pa_nil ?Oa;case Oa=>rfl);case Ma=>intro _; rfl);case Ja=>refine' pw_or ?Pa ?Qa;(case Pa=>refine' pt_cmpR op_eq ?Ra ?Sa (nomark _);(case Ra=>refine' pe_callB (hn:=zbw) (hdb:=zbv) call_len_seq zim Z.n_len bt_len ?Ta rfl rfl;case Ta=>refine' pa_cons (pq 0 (visL ziq) zep zeq) pa_nil ?Ua;case Ua=>rfl);case Sa=>exact pe_int);case Qa=>refine' pw_or1 ?Va;case Va=>refine' pt_not ?Wa;case Wa=>refine' pt_val ?Xa ?Ya;(case Xa=>refine' pe_callB (hn:=zd8) (hdb:=zd7) (call_isiT (T:="str")) zil Z.n_isinstance bt_isinstance ?Za rfl rfl;case Za=>refine' pa_cons ?Ab ?Bb ?Cb;(case Ab=>refine' pe_ix ix_seq (pq 0 (visL ziq) zep zeq) ?Db ?Eb;(case Db=>exact pe_int);case Eb=>intro _ _;exact rfl);(case Bb=>refine' pa_cons ?Fb pa_nil ?Gb;(case Fb=>refine' pe_bltn (v:=V.ty "str") (hn:=zeo) (hd:=zen) zio Z.n_str bt_str rfl);case Gb=>rfl);case Cb=>rfl);case Ya=>intro _; rfl);case Da=>refine' pss_one ps_never);case Ba=>refine' pss_cons ?Hb ?Ib;(case Hb=>refine' ps_asg ?Jb ?Kb ?Lb ?Mb ?Nb;(case Jb=>exact(pq 0 (visL ziq) zep zeq));(case Kb=>refine' pg_star rfl ?Ob rfl rfl rfl;case Ob=>refine' pgs_cons ?Pb ?Qb ?Rb;(case Pb=>refine' pg_name (i:=2) (x:=Str.ofString "word") SC.nd rfl (Or.inl zis) (.inl rfl));(case Qb=>refine' pgs_cons ?Sb pgs_nil ?Tb;(case Sb=>refine' pg_name (i:=3) (x:=Str.ofString "things") SC.nd rfl (Or.inl zir) (.inl rfl));case Tb=>rfl);case Rb=>rfl);(case Lb=>rfl);(case Mb=>rfl);case Nb=>rfl);case Ib=>refine' pss_one ?Ub;case Ub=>refine' ps_ret ?Vb;case Vb=>refine' pe_tup ?Wb;case Wb=>refine' pa_cons (pq 2 (visL zis) zic zid) ?Xb ?Yb;(case Xb=>refine' pa_cons (pq 3 (visL zir) zia zib) pa_nil ?Zb;case Zb=>rfl);case Yb=>rfl
  refine⟨_,rfl,rfl,_,rfl,ifF (by simp; omega) ?_⟩
  refine⟨_,rfl,a,_,rfl,hL,fun H1 s1=>⟨true,rfl,iteF ?_⟩⟩
  refine⟨_,rfl,a,_,rfl,(hL.same s1).sq,rfl,_,rfl,ifF (by simp; omega) ?_⟩
  refine⟨_,rfl,rIx_seq (hL.same s1).sq (atI_int (x:=V.str x) (by decide) rfl) ⟨_,_,_,rfl,.str _,kit_str1 K,true,rfl,iteF ?_⟩⟩
  refine⟨_,rfl,a,_,_,rfl,(hL.same s1).sq,fun l hl=>⟨_,_,rfl,_,_,rfl,rfl,?_⟩⟩
  refine⟨_,rfl,_,rfl,by show 2≤sizeLine; decide,fun p hp=>?_⟩
  have s2:=s1.trans (same_new hl (.lst ys))
  have s3:=s2.trans (same_new hp (.tup [.str x,.ref l]))
  exact q p l ys _ upd_same (same_new hp _ _ _ upd_same) (mixA_same s3 hA) s3
abbrev s_checked_term:Stmt:=top 16
theorem zit:FnScope ["table","thing","scope","room","name","things","row"] ["table","thing","scope","room"] (defScope s_checked_term):=⟨rfl,rfl,rfl,by decide +kernel,rfl,by decide +kernel,by decide +kernel⟩
theorem ziu:LN .globalImplicit s_checked_term "checked_row":=by decide +kernel
theorem ziv:LN .globalImplicit s_checked_term "isinstance":=by decide +kernel
theorem ziw:LN .local s_checked_term "name":=by decide +kernel
theorem zix:LN .local s_checked_term "room":=by decide +kernel
theorem ziy:LN .local s_checked_term "row":=by decide +kernel
theorem ziz:LN .local s_checked_term "scope":=by decide +kernel
theorem zi0:LN .globalImplicit s_checked_term "str":=by decide +kernel
theorem zi1:LN .local s_checked_term "table":=by decide +kernel
theorem zi2:LN .local s_checked_term "thing":=by decide +kernel
theorem zi3:LN .local s_checked_term "things":=by decide +kernel
theorem zi4:LN .globalImplicit s_checked_term "tuple":=by decide +kernel
theorem zi5:LN .globalImplicit s_checked_term "word_and_things":=by decide +kernel
abbrev s_checked_row:Stmt:=top 17
theorem zi6:FnScope ["table","things","places","scope","room","row","thing","place","term","kind"] ["table","things","places","scope","room"] (defScope s_checked_row):=⟨rfl,rfl,rfl,by decide +kernel,rfl,by decide +kernel,by decide +kernel⟩
theorem zi7:LN .globalImplicit s_checked_row "check_many":=by decide +kernel
theorem zi8:LN .globalImplicit s_checked_row "checked_term":=by decide +kernel
theorem zi9:LN .local s_checked_row "kind":=by decide +kernel
theorem zja:LN .globalImplicit s_checked_row "len":=by decide +kernel
theorem zjb:LN .local s_checked_row "place":=by decide +kernel
theorem zjc:LN .local s_checked_row "places":=by decide +kernel
theorem zjd:LN .local s_checked_row "room":=by decide +kernel
theorem zje:LN .local s_checked_row "row":=by decide +kernel
theorem zjf:LN .local s_checked_row "scope":=by decide +kernel
theorem zjg:LN .local s_checked_row "table":=by decide +kernel
theorem zjh:LN .local s_checked_row "term":=by decide +kernel
theorem zji:LN .local s_checked_row "thing":=by decide +kernel
theorem zjj:LN .local s_checked_row "things":=by decide +kernel
theorem zjk:LN .globalImplicit s_checked_row "zip":=by decide +kernel
def spTm (C:Addr) (n:Nat):Sp:=fun vs H Q _=>∃ (x sc:Addr) (v:V) (r:Int) (ks:List Str) (ts:List TieR) (fs:List FunR) (S:Str→Option Str) (t:Tr) (k:Str),vs=[.ref x,v,.ref sc,.int r]∧TabAt C H x ks ts fs∧(∀ f∈fs,f.ps.length≤2)∧ScAt H sc S∧Mix H v t∧IsTm fs S t k∧dep t≤n∧(dep t:Int)≤r∧
 ∀ p u H',H' p=some (.tup [u,.str k])→Tup H' u t→Same H H'→Q (.ref p) H'
def spRow (C:Addr) (n:Nat):Sp:=fun vs H Q _=>∃ (x sc l pl:Addr) (r:Int) (ks:List Str) (ts:List TieR) (fs:List FunR) (S:Str→Option Str) (xs:List V) (l':List Tr) (ps:List Str),vs=[.ref x,.ref l,.ref pl,.ref sc,.int r]∧TabAt C H x ks ts fs∧(∀ f∈fs,f.ps.length≤2)∧ScAt H sc S∧H l=some (.lst xs)∧MixA H xs l'∧H pl=some (.tup (ps.map V.str))∧IsTms fs S l' ps∧ps.length≤2∧depA l'≤n∧(depA l':Int)≤r∧
 ∀ q us H',H q=none→H' q=some (.lst us)→TupA H' us l'→Same H H'→Q (.ref q) H'
theorem ok_row_of {C:Addr} (F:FunAt K mg "checked_row" s_checked_row ["table","things","places","scope","room"]) (Z:Bl mg) (n_zip:mg "zip"=none) (D_check_many:Def P w K mg base "check_many" 1 ["things","many"] spCheckMany) (n:Nat)
  (D_checked_term:Def P w K mg base "checked_term" (2*n+3) ["table","thing","scope","room"] (spTm C n)):Def P w K mg base "checked_row" (2*n+4) ["table","things","places","scope","room"] (spRow C n):=by
 have SC:=zi6
 refine F.mk' (k:=2*n+3) zi6 (fun vs H Q E h=>?_) (fun f cdv A outer s H vs Q E hr h=>?_)
 ·obtain⟨x,sc,l,pl,r,ks,ts,fs,S,xs,l',ps,rfl,_⟩:=h
  rfl
 ·obtain⟨x,sc,l,pl,r,ks,ts,fs,S,xs,l',ps,rfl,hT,hp2,hS,hl,hm,hp,ht,h2,hn,hrr,q⟩:=h
  refine'⟨_,?derivation,?_⟩
  case derivation=>refine' pss_cons ?Aa ?Ba;(case Aa=>refine' ps_expr ?Ca rfl;case Ca=>refine' pe_def (hdb:=zht) D_check_many (hr.mono (by omega)) zi7 ?Da rfl rfl;case Da=>refine' pa_cons (pq 1 (visL zjj) zia zib) ?Ea ?Fa;(case Ea=>refine' pa_cons ?Ga pa_nil ?Ha;(case Ga=>refine' pe_callB (hn:=zbw) (hdb:=zbv) call_len_seq zja Z.n_len bt_len ?Ia rfl rfl;case Ia=>refine' pa_cons (pq 2 (visL zjc) zeh zei) pa_nil ?Ja;case Ja=>rfl);case Ha=>rfl);case Fa=>rfl);case Ba=>refine' pss_cons ?Ka ?La;(case Ka=>refine' ps_set (i:=5) (x:=Str.ofString "row") ?Ma ?Na ?Oa ?Pa ?Qa ?Ra;(case Ma=>exact SC.nd);(case Na=>exact rfl);(case Oa=>exact(Or.inl zje));(case Pa=>refine' pe_lst pa_nil);(case Qa=>rfl);case Ra=>exact .inl rfl);case La=>refine' pss_cons ?Sa ?Ta;(case Sa=>refine' ps_for PassesOwn.never rfl ?Ua ?Va ?Wa ?Xa;(case Ua=>refine' pi_zip zjk n_zip ?Ya rfl rfl;case Ya=>refine' pa_cons (pq 1 (visL zjj) zia zib) ?Za ?Ab;(case Za=>refine' pa_cons (pq 2 (visL zjc) zeh zei) pa_nil ?Bb;case Bb=>rfl);case Ab=>rfl);(case Va=>refine' pg_tup rfl ?Cb rfl rfl;case Cb=>refine' pgs_cons ?Db ?Eb ?Fb;(case Db=>refine' pg_name (i:=6) (x:=Str.ofString "thing") SC.nd rfl (Or.inl zji) (.inl rfl));(case Eb=>refine' pgs_cons ?Gb pgs_nil ?Hb;(case Gb=>refine' pg_name (i:=7) (x:=Str.ofString "place") SC.nd rfl (Or.inl zjb) (.inl rfl));case Hb=>rfl);case Fb=>rfl);(case Wa=>refine' pss_cons ?Ib ?Jb;(case Ib=>refine' ps_asg ?Kb ?Lb ?Mb ?Nb ?Ob;(case Kb=>refine' pe_def (hdb:=zhv) D_checked_term (hr.mono (by omega)) zi8 ?Pb rfl rfl;case Pb=>refine' pa_cons (pq 0 (visL zjg) zh6 zh7) ?Qb ?Rb;(case Qb=>refine' pa_cons (pq 6 (visL zji) zep zeq) ?Sb ?Tb;(case Sb=>refine' pa_cons (pq 3 (visL zjf) zh4 zh5) ?Ub ?Vb;(case Ub=>refine' pa_cons (pq 4 (visL zjd) zh0 zh1) pa_nil ?Wb;case Wb=>rfl);case Vb=>rfl);case Tb=>rfl);case Rb=>rfl);(case Lb=>refine' pg_tup rfl ?Xb rfl rfl;case Xb=>refine' pgs_cons ?Yb ?Zb ?Ac;(case Yb=>refine' pg_name (i:=8) (x:=Str.ofString "term") SC.nd rfl (Or.inl zjh) (.inl rfl));(case Zb=>refine' pgs_cons ?Bc pgs_nil ?Cc;(case Bc=>refine' pg_name (i:=9) (x:=Str.ofString "kind") SC.nd rfl (Or.inl zi9) (.inl rfl));case Cc=>rfl);case Ac=>rfl);(case Mb=>rfl);(case Nb=>rfl);case Ob=>rfl);case Jb=>refine' pss_cons ?Dc ?Ec;(case Dc=>refine' ps_if ?Fc ?Gc pss_nil;(case Fc=>refine' pt_cmpR op_ne (pq 9 (visL zi9) zd9 zea) (pq 7 (visL zjb) zhy zhz) (nomark _));case Gc=>refine' pss_one ps_never);case Ec=>refine' pss_one ?Hc;case Hc=>refine' ps_expr ?Ic rfl;case Ic=>refine' pe_bm PySem.F.plainAttrs_list PySem.F.slot_list_append PySem.F.type_list_append mt_append (pq 5 (visL zje) zh2 zh3) ?Jc rfl rfl rfl rfl rfl;case Jc=>refine' pa_cons (pq 8 (visL zjh) zh8 zh9) pa_nil ?Kc;case Kc=>rfl);case Xa=>intro _; rfl);case Ta=>refine' pss_one ?Lc;case Lc=>refine' ps_ret (pq 5 (visL zje) zh2 zh3)
  have len1:=hm.length
  have len2:=ht.length
  have lenE:xs.length=(ps.map V.str).length:=by rw [List.length_map]; omega
  refine⟨_,rfl,_,rfl,pl,_,rfl,.inr (SqT.of hp),l,xs,by rw [lenE]; rfl,hl,?_⟩
  refine⟨by show 0≤sizeLine; decide,fun D hD=>?_⟩
  have s1:=same_new hD (.lst [])
  refine⟨_,rfl,_,rfl,l,pl,xs,_,rfl,SqL.of (s1 _ _ hl),SqT.of (s1 _ _ hp),?_⟩
  refine for_zip (K:=K) (a:=l) (b:=pl) (xs:=xs) (ys:=ps.map V.str) lenE (fun i σ H2=>∃ (us:List V) (v6 v7 v8 v9:Option V),σ=[some (.ref x),some (.ref l),some (.ref pl),some (.ref sc),some (.int r),some (.ref D),v6,v7,v8,v9]∧Same H H2∧H2 D=some (.lst us)∧TupA H2 us (l'.take i))
   ⟨[],none,none,none,none,rfl,s1,upd_same,.nil⟩ (fun i σ H2 _ ⟨_,_,_,_,_,_,y,_⟩=>⟨SqL.of (y _ _ hl),SqT.of (y _ _ hp)⟩) ?_ ?_
  ·rintro i y z σ H2 p hy hz hpn ⟨us,v6,v7,v8,v9,rfl,s2,eD,hu⟩
   rw [List.getElem?_map] at hz
   obtain⟨k,hk,rfl⟩:=Option.map_eq_some_iff.mp hz
   obtain⟨t,ht',hmt⟩:=hm.get hy
   have dt:=depA_mem (List.mem_of_getElem? ht')
   have s3:=same_new hpn (.tup [y,.str k])
   have s03:=s2.trans s3
   refine⟨p,_,rfl,SqT.of upd_same,rfl,_,_,rfl,_,_,rfl,rfl,?_⟩
   refine⟨_,rfl,_,rfl,_,rfl,_,rfl,x,sc,y,r,ks,ts,fs,S,t,k,rfl,hT.same s03,hp2,hS.same s03,mix_same s03 hmt,ht.get ht' hk,by omega,by omega,fun p2 u H3 e3 tu s4=>?_⟩
   refine⟨p2,_,rfl,SqT.of e3,rfl,_,_,rfl,_,_,rfl,rfl,?_⟩
   refine⟨_,rfl,_,rfl,rfl,_,rfl,iteNS rfl ?_⟩
   have s23:=s3.trans s4
   have eD3:=s23 _ _ eD
   have usl:=hu.length
   rw [List.length_take] at usl
   refine⟨_,rfl,.inl ⟨rfl,_,SqL.of eD3⟩,_,rfl,D,us,_,rfl,rfl,eD3,Nat.lt_of_le_of_lt (show us.length≤2 by omega) (by decide),us++[u],_,_,_,_,rfl,fun c o e=>by rw [upd_ne (ne_of_none e hD)]; exact s23 c o (s2 c o e),upd_same,?_⟩
   have tp:Tups H3 (upd H3 D (.lst (us++[u]))):=fun c zs e=>by rw [upd_ne (fun w=>by rw [w,eD3] at e; cases e)]; exact e
   rw [List.take_succ,ht']
   exact(tupA_keep tp (tupA_keep (Same.tups s23) hu)).snoc (tup_keep tp tu)
  ·rintro σ H2 ⟨us,v6,v7,v8,v9,rfl,s2,eD,hu⟩
   rw [len1,List.take_length] at hu
   exact⟨_,rfl,q D us H2 hD eD hu s2⟩
def spRow' (C:Addr):Nat→Sp
 | 0=>fun _ _ _ _=>False
 | n+1=>spRow C n
theorem spRow'_of {C:Addr} {m:Nat} {vs:List V} {H:Hp} {Q:VK} {E:XK} (h:spRow C m vs H Q E):spRow' C (m+1) vs H Q E:=h
theorem ok_row0 {C:Addr} (F:FunAt K mg "checked_row" s_checked_row ["table","things","places","scope","room"]):Def P w K mg base "checked_row" 2 ["table","things","places","scope","room"] (spRow' C 0):=
 F.mk' (k:=1) zi6 (fun vs H Q E h=>False.elim h) fun f cdv A outer s H vs Q E hr h=>False.elim h
theorem ok_term_of {C:Addr} (F:FunAt K mg "checked_term" s_checked_term ["table","thing","scope","room"]) (Z:Bl mg) (T:ClT K C) (D_word_and_things:Def P w K mg base "word_and_things" 2 ["thing","room"] spWord) (n:Nat)
  (D_checked_row:Def P w K mg base "checked_row" (2*n+2) ["table","things","places","scope","room"] (spRow' C n)):Def P w K mg base "checked_term" (2*n+3) ["table","thing","scope","room"] (spTm C n):=by
 have SC:=zit
 refine F.mk' (k:=2*n+2) zit (fun vs H Q E h=>?_) (fun f cdv A outer s H vs Q E hr h=>?_)
 ·obtain⟨x,sc,v,r,ks,ts,fs,S,t,k,rfl,_⟩:=h
  rfl
 ·obtain⟨x,sc,v,r,ks,ts,fs,S,t,k,rfl,hT,hp2,hS,hm,ht,hn,hrr,q⟩:=h
  refine'⟨_,?derivation,?_⟩
  case derivation=>refine' pss_cons ?Aa ?Ba;(case Aa=>refine' ps_if ?Ca ?Da pss_nil;(case Ca=>refine' pt_val ?Ea ?Fa;(case Ea=>refine' pe_callB (hn:=zd8) (hdb:=zd7) (call_isiT (T:="str")) ziv Z.n_isinstance bt_isinstance ?Ga rfl rfl;case Ga=>refine' pa_cons (pq 1 (visL zi2) zep zeq) ?Ha ?Ia;(case Ha=>refine' pa_cons ?Ja pa_nil ?Ka;(case Ja=>refine' pe_bltn (v:=V.ty "str") (hn:=zeo) (hd:=zen) zi0 Z.n_str bt_str rfl);case Ka=>rfl);case Ia=>rfl);case Fa=>intro _; rfl);case Da=>refine' pss_cons ?La ?Ma;(case La=>refine' ps_if ?Na ?Oa pss_nil;(case Na=>refine' pt_cmp ?Pa (by with_unfolding_all rfl);case Pa=>refine' pc_dnotin (hu_of hr) (pq 1 (visL zi2) zep zeq) (pq 2 (visL ziz) zh4 zh5));case Oa=>refine' pss_one ps_never);case Ma=>refine' pss_one ?Qa;case Qa=>refine' ps_ret ?Ra;case Ra=>refine' pe_tup ?Sa;case Sa=>refine' pa_cons (pq 1 (visL zi2) zep zeq) ?Ta ?Ua;(case Ta=>refine' pa_cons ?Va pa_nil ?Wa;(case Va=>refine' pe_dget (hu_of hr) (pq 2 (visL ziz) zh4 zh5) (pq 1 (visL zi2) zep zeq) ?Xa;case Xa=>intro _ _;exact rfl);case Wa=>rfl);case Ua=>rfl);case Ba=>refine' pss_cons ?Ya ?Za;(case Ya=>refine' ps_asg ?Ab ?Bb ?Cb ?Db ?Eb;(case Ab=>refine' pe_def (hdb:=zie) D_word_and_things (hr.mono (by omega)) zi5 ?Fb rfl rfl;case Fb=>refine' pa_cons (pq 1 (visL zi2) zep zeq) ?Gb ?Hb;(case Gb=>refine' pa_cons (pq 3 (visL zix) zh0 zh1) pa_nil ?Ib;case Ib=>rfl);case Hb=>rfl);(case Bb=>refine' pg_tup rfl ?Jb rfl rfl;case Jb=>refine' pgs_cons ?Kb ?Lb ?Mb;(case Kb=>refine' pg_name (i:=4) (x:=Str.ofString "name") SC.nd rfl (Or.inl ziw) (.inl rfl));(case Lb=>refine' pgs_cons ?Nb pgs_nil ?Ob;(case Nb=>refine' pg_name (i:=5) (x:=Str.ofString "things") SC.nd rfl (Or.inl zi3) (.inl rfl));case Ob=>rfl);case Mb=>rfl);(case Cb=>rfl);(case Db=>rfl);case Eb=>rfl);case Za=>refine' pss_cons ?Pb ?Qb;(case Pb=>refine' ps_if ?Rb ?Sb pss_nil;(case Rb=>refine' pt_cmp ?Tb (by with_unfolding_all rfl);case Tb=>refine' pc_dnotin (hu_of hr) (pq 4 (visL ziw) zed zee) ?Ub;case Ub=>refine' pe_fld (pq 0 (visL zi1) zh6 zh7) rfl);case Sb=>refine' pss_one ps_never);case Qb=>refine' pss_cons ?Vb ?Wb;(case Vb=>refine' ps_set (i:=6) (x:=Str.ofString "row") ?Xb ?Yb ?Zb ?Ac ?Bc ?Cc;(case Xb=>exact SC.nd);(case Yb=>exact rfl);(case Zb=>exact(Or.inl ziy));(case Ac=>refine' pe_def (hdb:=zhu) D_checked_row (hr.mono (by omega)) ziu ?Dc rfl rfl;case Dc=>refine' pa_cons (pq 0 (visL zi1) zh6 zh7) ?Ec ?Fc;(case Ec=>refine' pa_cons (pq 5 (visL zi3) zia zib) ?Gc ?Hc;(case Gc=>refine' pa_cons ?Ic ?Jc ?Kc;(case Ic=>refine' pe_dget (hu_of hr) ?Lc (pq 4 (visL ziw) zed zee) ?Mc;(case Lc=>refine' pe_fld (pq 0 (visL zi1) zh6 zh7) rfl);case Mc=>intro _ _;exact rfl);(case Jc=>refine' pa_cons (pq 2 (visL ziz) zh4 zh5) ?Nc ?Oc;(case Nc=>refine' pa_cons ?Pc pa_nil ?Qc;(case Pc=>refine' pe_op op_sub (pq 3 (visL zix) zh0 zh1) ?Rc;case Rc=>exact pe_int);case Qc=>rfl);case Oc=>rfl);case Kc=>rfl);case Hc=>rfl);case Fc=>rfl);(case Bc=>rfl);case Cc=>exact .inl rfl);case Wb=>refine' pss_one ?Sc;case Sc=>refine' ps_ret ?Tc;case Tc=>refine' pe_tup ?Uc;case Uc=>refine' pa_cons ?Vc ?Wc ?Xc;(case Vc=>refine' pe_callTy (hn:=zeu) (hdb:=zet) ?Yc zi4 Z.n_tuple bt_tuple ?Zc rfl rfl;(case Yc=>exact call_tuple_of);case Zc=>refine' pa_cons ?Ad pa_nil ?Bd;(case Ad=>refine' pe_op op_cat ?Cd (pq 6 (visL ziy) zh2 zh3);case Cd=>refine' pe_lst ?Dd;case Dd=>refine' pa_cons (pq 4 (visL ziw) zed zee) pa_nil ?Ed;case Ed=>rfl);case Bd=>rfl);(case Wc=>refine' pa_cons ?Fd pa_nil ?Gd;(case Fd=>refine' pe_dget (hu_of hr) ?Hd (pq 4 (visL ziw) zed zee) ?Id;(case Hd=>refine' pe_fld (pq 0 (visL zi1) zh6 zh7) rfl);case Id=>intro _ _;exact rfl);case Gd=>rfl);case Xc=>rfl
  cases ht with
  | var hsc=>
   rename_i x0
   cases hm
   obtain⟨kvs,e1,_,e2⟩:=hS
   have hg:DGet H sc (.str x0) (some (.str k)):=by
    have:=DGet.k (k:=.inr x0) e1
    rw [e2,hsc] at this
    exact this
   refine⟨_,rfl,_,_,_,rfl,.str _,kit_str1 K,true,rfl,ifT rfl ?_⟩
   refine⟨_,rfl,_,rfl,sc,_,rfl,hg,_,rfl,iteF ?_⟩
   exact⟨_,rfl,_,rfl,_,rfl,sc,_,rfl,hg,by show 2≤sizeLine; decide,fun p hp=>q p _ _ upd_same (.leaf _) (same_new hp _)⟩
  | app hf hts=>
   rename_i fn l'
   have hd:dep (.node (.leaf fn.nm::l'))=1+depA l':=by
    show 1+max 0 (depA l')=_
    rw [Nat.max_eq_right (Nat.zero_le _)]
   rw [hd] at hn hrr
   obtain⟨m,rfl⟩:∃ m,n=m+1:=⟨n-1,by omega⟩
   obtain⟨a,ys,rfl,hL,hA⟩:=hm.inv
   obtain⟨ty,hty,hk⟩:∃ ty,TyOf K H (.ref a) ty∧PySem.W.kitOne K ty (.type "str")=some false:=hL.elim (fun h=>⟨_,.lst h,rfl⟩) fun h=>⟨_,.tup h,rfl⟩
   refine⟨_,rfl,_,ty,false,rfl,hty,hk,false,rfl,iteF ?_⟩
   refine⟨_,rfl,_,rfl,.ref a,fn.nm,l',r,rfl,hm,by omega,fun p l xs H1 e1 e2 m1 s1=>?_⟩
   refine⟨p,_,rfl,SqT.of e1,rfl,_,_,rfl,_,_,rfl,rfl,?_⟩
   have hT1:=hT.same s1
   obtain⟨dx,ka,tb,fb,kb,tp,fp,fk,h1,h2,h3,h4,h5,h6,h7,h8⟩:=id hT1
   obtain⟨pl,g1,g2⟩:=h7 fn hf
   have hg:∀ H',Same H1 H'→DGet H' fb (.str fn.nm) (some (.ref pl)):=fun H' s=>by
    have:=DGet.k (k:=.inr fn.nm) (s _ _ h4)
    rw [g1] at this
    exact this
   have hgk:∀ H',Same H1 H'→DGet H' kb (.str fn.nm) (some (.str fn.kd)):=fun H' s=>by
    have:=DGet.k (k:=.inr fn.nm) (s _ _ h5)
    rw [h8 fn hf] at this
    exact this
   refine⟨_,rfl,_,rfl,x,C,dx,_,_,rfl,h1,T.cl,T.n3,fa4_3 _ _ _ _,fb,_,rfl,hg H1 (Same.refl _),_,rfl,iteF ?_⟩
   refine⟨_,rfl,_,rfl,_,rfl,x,C,dx,_,_,rfl,h1,T.cl,T.n3,fa4_3 _ _ _ _,_,rfl,fb,_,rfl,hg H1 (Same.refl _),_,rfl,_,rfl,r,1,rfl,rfl,?_⟩
   unfold tNil
   refine spRow'_of ?_
   refine⟨x,sc,l,pl,r-1,ks,ts,fs,S,xs,l',fn.ps,rfl,hT1,hp2,hS.same s1,e2,m1,g2,hts,hp2 fn hf,by omega,by omega,fun q' us H2 hq' e3 tu s2=>?_⟩
   refine⟨_,rfl,by show 1≤sizeLine; decide,fun l1 hl1=>?_⟩
   have s3:=same_new hl1 (.lst [.str fn.nm])
   have usl:=tu.length
   have ll:=hts.length
   have l2:=hp2 fn hf
   refine⟨_,rfl,l1,q',_,_,rfl,rfl,upd_same,s3 _ _ e3,Nat.le_trans (show 1+us.length≤100 by omega) (by decide),fun L hL=>?_⟩
   refine⟨L,_,rfl,.inl ⟨SqL.of upd_same,fun tt htt=>?_⟩⟩
   have s4:=same_new hL (.lst ([.str fn.nm]++us))
   have s5:=same_new htt (.tup ([.str fn.nm]++us))
   have s25:=(s3.trans s4).trans s5
   have s15:=s2.trans s25
   refine⟨_,rfl,x,C,dx,_,_,rfl,s15 _ _ h1,T.cl,T.n4,fa4_4 _ _ _ _,_,rfl,kb,_,rfl,hgk _ s15,by show 2≤sizeLine; decide,fun pp hpp=>?_⟩
   have s6:=same_new hpp (.tup [.ref tt,.str fn.kd])
   exact q pp (.ref tt) _ upd_same (.node (s6 _ _ upd_same) (.cons (.leaf _) (tupA_keep (Same.tups (s25.trans s6)) tu))) (s1.trans (s15.trans s6))
theorem ok_terms {C:Addr} (F1:FunAt K mg "checked_term" s_checked_term ["table","thing","scope","room"]) (F2:FunAt K mg "checked_row" s_checked_row ["table","things","places","scope","room"]) (Z:Bl mg) (T:ClT K C) (n_zip:mg "zip"=none)
  (D_word_and_things:Def P w K mg base "word_and_things" 2 ["thing","room"] spWord) (D_check_many:Def P w K mg base "check_many" 1 ["things","many"] spCheckMany) :
  ∀ n,Def P w K mg base "checked_term" (2*n+3) ["table","thing","scope","room"] (spTm C n)∧Def P w K mg base "checked_row" (2*n+4) ["table","things","places","scope","room"] (spRow C n)
 | 0=>
  have h1:=ok_term_of F1 Z T D_word_and_things 0 (ok_row0 F2)
  ⟨h1,ok_row_of F2 Z n_zip D_check_many 0 h1⟩
 | n+1=>by
  have ih:=ok_terms F1 F2 Z T n_zip D_word_and_things D_check_many n
  have h1:=ok_term_of (C:=C) F1 Z T D_word_and_things (n+1) (by
   rw [show 2*(n+1)+2=2*n+4 from by omega]
   exact ih.2)
  exact⟨h1,ok_row_of F2 Z n_zip D_check_many (n+1) h1⟩
end
theorem zjl:LD "checked_binding":=by decide +kernel
theorem zjm:LD "checked_equation":=by decide +kernel
theorem zjn:LD "checked_saying":=by decide +kernel
theorem zjo:LD "dict":=by decide +kernel
theorem zjp:LM "dict":=by decide +kernel
theorem zjq:LD "inner":=by decide +kernel
theorem zjr:LS "inner":=by decide +kernel
theorem zjs:LD "left":=by decide +kernel
theorem zjt:LS "left":=by decide +kernel
theorem zju:LD "left_kind":=by decide +kernel
theorem zjv:LS "left_kind":=by decide +kernel
theorem zjw:LD "part":=by decide +kernel
theorem zjx:LS "part":=by decide +kernel
theorem zjy:LD "right":=by decide +kernel
theorem zjz:LS "right":=by decide +kernel
theorem zj0:LD "right_kind":=by decide +kernel
theorem zj1:LS "right_kind":=by decide +kernel
theorem zj2:LD "variable":=by decide +kernel
theorem zj3:LS "variable":=by decide +kernel
def ScB (H:Hp) (a:Addr) (sc:Str→Option Str) (b:Nat):Prop:=∃ kvs:List (Key×V),H a=some (.dK kvs)∧kvs.length≤b∧∀ x:Str,valV kvs (.inr x)=(sc x).map V.str
theorem ScB.same {H H':Hp} {a:Addr} {sc:Str→Option Str} {b:Nat} (h:ScB H a sc b) (s:Same H H'):ScB H' a sc b:=let ⟨kvs,e,r⟩:=h; ⟨kvs,s _ _ e,r⟩
theorem ScB.at {H:Hp} {a:Addr} {sc:Str→Option Str} {b:Nat} (h:ScB H a sc b) (hb:b≤100):ScAt H a sc:=let ⟨kvs,e,l,r⟩:=h; ⟨kvs,e,Nat.le_trans l hb,r⟩
theorem ite_both {c A B R:Prop} [Decidable c] (h:R) (f:c→R→A) (g:¬ c→R→B):if c then A else B:=by
 by_cases hc:c
 ·rw [if_pos hc]; exact f hc h
 ·rw [if_neg hc]; exact g hc h
theorem in_tup {K:PySem.W.Frag} {z:Str} {ws:List Str} {H:Hp} {Q:VK} (hz:(ws.map V.str).length≤sizeLine) (q:∀ tt,H tt=none→Q (.bl (decide (z∈ws))) (upd H tt (.tup (ws.map V.str)))):(ws.map V.str).length≤sizeLine∧∀ p,H p=none→rIn K false (.str z) (.ref p) (upd H p (.tup (ws.map V.str))) Q:=
 ⟨hz,fun tt htt=>⟨tt,ws.map V.str,rfl,.inr (SqT.of upd_same),rfl,flat_strs ws,by have:=q tt htt; rw [← inV_strs] at this; exact this⟩⟩
theorem nm_ne_eq {z:Str} (h:isNm z):z≠"=":=by
 rintro rfl
 revert h
 unfold isNm
 decide +kernel
inductive SyAs (ks:List Str) (ts:List TieR) (fs:List FunR) (S:Str→Option Str):Str→List Tr→Prop where
 | eq {a b:Tr} {k:Str}:IsTm fs S a k→IsTm fs S b k→SyAs ks ts fs S "=" [a,b]
 | conn {w:Str} {l:List Tr}:w∈[("not":Str),"and","or"]→(w="not"→l.length=1)→l.length≤50→IsSys ks ts fs S l→SyAs ks ts fs S w l
 | bind {w x k:Str} {a:Tr}:w∈[("all":Str),"some"]→isNm x→k∈ks→IsSy ks ts fs (scPut S x k) a→SyAs ks ts fs S w [.leaf x,.leaf k,a]
 | tie {t:TieR} {l:List Tr}:t∈ts→IsTms fs S l t.ps→SyAs ks ts fs S t.nm l
theorem wd_an:¬ (("and":Str)="not"):=by decide +kernel
theorem wd_on:¬ (("or":Str)="not"):=by decide +kernel
theorem IsSy.as {ks:List Str} {ts:List TieR} {fs:List FunR} {S:Str→Option Str} {t:Tr} (h:IsSy ks ts fs S t):∃ w l,t=.node (.leaf w::l)∧SyAs ks ts fs S w l:=by
 cases h with
 | eq a b=>exact⟨_,_,rfl,.eq a b⟩
 | not a=>exact⟨_,_,rfl,.conn List.mem_cons_self (fun _=>rfl) (show 1≤50 by decide) (.cons a .nil)⟩
 | conn hw hl a=>
  rcases hw with rfl | rfl
  ·exact⟨_,_,rfl,.conn (List.mem_cons_of_mem _ List.mem_cons_self) (fun z=>absurd z wd_an) hl a⟩
  ·exact⟨_,_,rfl,.conn (List.mem_cons_of_mem _ (List.mem_cons_of_mem _ List.mem_cons_self)) (fun z=>absurd z wd_on) hl a⟩
 | bind hw hx hk a=>
  rcases hw with rfl | rfl
  ·exact⟨_,_,rfl,.bind List.mem_cons_self hx hk a⟩
  ·exact⟨_,_,rfl,.bind (List.mem_cons_of_mem _ List.mem_cons_self) hx hk a⟩
 | tie ht a=>exact⟨_,_,rfl,.tie ht a⟩
theorem IsSys.get {ks:List Str} {ts:List TieR} {fs:List FunR} {S:Str→Option Str}:∀ {l:List Tr} {i:Nat} {t:Tr},IsSys ks ts fs S l→l[i]? = some t→IsSy ks ts fs S t
 | _,_,_,.nil,h=>by simp at h
 | _,0,_,.cons a _,h=>by simp at h; subst h; exact a
 | _,i+1,_,.cons _ r,h=>IsSys.get (i:=i) r (by simpa using h)
theorem wd1:∀ w∈[("not":Str),"and","or"],w≠"=":=by decide +kernel
theorem wd2:∀ w∈[("all":Str),"some"],w≠"="∧w≠"not"∧w∉[("not":Str),"and","or"]:=by decide +kernel
theorem wd3 {z:Str} (h:isSg z):z≠"="∧z≠"not"∧z∉[("not":Str),"and","or"]∧z∉[("all":Str),"some"]:=by
 have h2:=h.2
 unfold sayWords at h2
 simp only [List.mem_cons,List.not_mem_nil,or_false,not_or] at h2 ⊢
 exact⟨nm_ne_eq h.1,h2.2.2.1,⟨h2.2.2.1,h2.2.2.2.1,h2.2.2.2.2⟩,h2.1,h2.2.1⟩
theorem dep_node (w:Str) (l:List Tr):dep (.node (.leaf w::l))=1+depA l:=by
 show 1+max 0 (depA l)=_
 rw [Nat.max_eq_right (Nat.zero_le _)]
section
variable {P:Program} {w:World} {K:PySem.W.Frag} {mg:Str→Option Value} {base:Heap}
abbrev s_checked_equation:Stmt:=top 14
theorem zj4:FnScope ["table","things","scope","room","left","left_kind","right","right_kind"] ["table","things","scope","room"] (defScope s_checked_equation):=⟨rfl,rfl,rfl,by decide +kernel,rfl,by decide +kernel,by decide +kernel⟩
theorem zj5:LN .globalImplicit s_checked_equation "check_many":=by decide +kernel
theorem zj6:LN .globalImplicit s_checked_equation "checked_term":=by decide +kernel
theorem zj7:LN .local s_checked_equation "left":=by decide +kernel
theorem zj8:LN .local s_checked_equation "left_kind":=by decide +kernel
theorem zj9:LN .local s_checked_equation "right":=by decide +kernel
theorem zka:LN .local s_checked_equation "right_kind":=by decide +kernel
theorem zkb:LN .local s_checked_equation "room":=by decide +kernel
theorem zkc:LN .local s_checked_equation "scope":=by decide +kernel
theorem zkd:LN .local s_checked_equation "table":=by decide +kernel
theorem zke:LN .local s_checked_equation "things":=by decide +kernel
def spEq (C:Addr) (n:Nat):Sp:=fun vs H Q _=>∃ (x sc l:Addr) (r:Int) (ks:List Str) (ts:List TieR) (fs:List FunR) (S:Str→Option Str) (va vb:V) (a b:Tr) (k:Str),vs=[.ref x,.ref l,.ref sc,.int r]∧TabAt C H x ks ts fs∧(∀ f∈fs,f.ps.length≤2)∧ScAt H sc S∧H l=some (.lst [va,vb])∧Mix H va a∧Mix H vb b∧IsTm fs S a k∧IsTm fs S b k∧dep a≤n∧dep b≤n∧(dep a:Int)≤r∧(dep b:Int)≤r∧
 ∀ u H',Tup H' u (.node [.leaf "=",a,b])→Same H H'→Q u H'
theorem ok_eq {C:Addr} (F:FunAt K mg "checked_equation" s_checked_equation ["table","things","scope","room"]) (Z:Bl mg) (D_check_many:Def P w K mg base "check_many" 1 ["things","many"] spCheckMany) (n:Nat)
  (D_checked_term:Def P w K mg base "checked_term" (2*n+3) ["table","thing","scope","room"] (spTm C n)):Def P w K mg base "checked_equation" (2*n+4) ["table","things","scope","room"] (spEq C n):=by
 have SC:=zj4
 refine F.mk' (k:=2*n+3) zj4 (fun vs H Q E h=>?_) (fun f cdv A outer s H vs Q E hr h=>?_)
 ·obtain⟨x,sc,l,r,ks,ts,fs,S,va,vb,a,b,k,rfl,_⟩:=h
  rfl
 ·obtain⟨x,sc,l,r,ks,ts,fs,S,va,vb,a,b,k,rfl,hT,hp2,hS,hl,ma,mb,ta,tb,na,nb,ra,rb,q⟩:=h
  refine'⟨_,?derivation,?_⟩
  case derivation=>refine' pss_cons ?Aa ?Ba;(case Aa=>refine' ps_expr ?Ca rfl;case Ca=>refine' pe_def (hdb:=zht) D_check_many (hr.mono (by omega)) zj5 ?Da rfl rfl;case Da=>refine' pa_cons (pq 1 (visL zke) zia zib) ?Ea ?Fa;(case Ea=>refine' pa_cons ?Ga pa_nil ?Ha;(case Ga=>exact pe_int);case Ha=>rfl);case Fa=>rfl);case Ba=>refine' pss_cons ?Ia ?Ja;(case Ia=>refine' ps_asg ?Ka ?La ?Ma ?Na ?Oa;(case Ka=>refine' pe_def (hdb:=zhv) D_checked_term (hr.mono (by omega)) zj6 ?Pa rfl rfl;case Pa=>refine' pa_cons (pq 0 (visL zkd) zh6 zh7) ?Qa ?Ra;(case Qa=>refine' pa_cons ?Sa ?Ta ?Ua;(case Sa=>refine' pe_ix ix_list (pq 1 (visL zke) zia zib) ?Va ?Wa;(case Va=>exact pe_int);case Wa=>intro _ _;exact rfl);(case Ta=>refine' pa_cons (pq 2 (visL zkc) zh4 zh5) ?Xa ?Ya;(case Xa=>refine' pa_cons (pq 3 (visL zkb) zh0 zh1) pa_nil ?Za;case Za=>rfl);case Ya=>rfl);case Ua=>rfl);case Ra=>rfl);(case La=>refine' pg_tup rfl ?Ab rfl rfl;case Ab=>refine' pgs_cons ?Bb ?Cb ?Db;(case Bb=>refine' pg_name (i:=4) (x:=Str.ofString "left") SC.nd rfl (Or.inl zj7) (.inl rfl));(case Cb=>refine' pgs_cons ?Eb pgs_nil ?Fb;(case Eb=>refine' pg_name (i:=5) (x:=Str.ofString "left_kind") SC.nd rfl (Or.inl zj8) (.inl rfl));case Fb=>rfl);case Db=>rfl);(case Ma=>rfl);(case Na=>rfl);case Oa=>rfl);case Ja=>refine' pss_cons ?Gb ?Hb;(case Gb=>refine' ps_asg ?Ib ?Jb ?Kb ?Lb ?Mb;(case Ib=>refine' pe_def (hdb:=zhv) D_checked_term (hr.mono (by omega)) zj6 ?Nb rfl rfl;case Nb=>refine' pa_cons (pq 0 (visL zkd) zh6 zh7) ?Ob ?Pb;(case Ob=>refine' pa_cons ?Qb ?Rb ?Sb;(case Qb=>refine' pe_ix ix_list (pq 1 (visL zke) zia zib) ?Tb ?Ub;(case Tb=>exact pe_int);case Ub=>intro _ _;exact rfl);(case Rb=>refine' pa_cons (pq 2 (visL zkc) zh4 zh5) ?Vb ?Wb;(case Vb=>refine' pa_cons (pq 3 (visL zkb) zh0 zh1) pa_nil ?Xb;case Xb=>rfl);case Wb=>rfl);case Sb=>rfl);case Pb=>rfl);(case Jb=>refine' pg_tup rfl ?Yb rfl rfl;case Yb=>refine' pgs_cons ?Zb ?Ac ?Bc;(case Zb=>refine' pg_name (i:=6) (x:=Str.ofString "right") SC.nd rfl (Or.inl zj9) (.inl rfl));(case Ac=>refine' pgs_cons ?Cc pgs_nil ?Dc;(case Cc=>refine' pg_name (i:=7) (x:=Str.ofString "right_kind") SC.nd rfl (Or.inl zka) (.inl rfl));case Dc=>rfl);case Bc=>rfl);(case Kb=>rfl);(case Lb=>rfl);case Mb=>rfl);case Hb=>refine' pss_cons ?Ec ?Fc;(case Ec=>refine' ps_if ?Gc ?Hc pss_nil;(case Gc=>refine' pt_cmpR op_ne (pq 5 (visL zj8) zju zjv) (pq 7 (visL zka) zj0 zj1) (nomark _));case Hc=>refine' pss_one ps_never);case Fc=>refine' pss_one ?Ic;case Ic=>refine' ps_ret ?Jc;case Jc=>refine' pe_tup ?Kc;case Kc=>refine' pa_cons ?Lc ?Mc ?Nc;(case Lc=>exact pe_str);(case Mc=>refine' pa_cons (pq 4 (visL zj7) zjs zjt) ?Oc ?Pc;(case Oc=>refine' pa_cons (pq 6 (visL zj9) zjy zjz) pa_nil ?Qc;case Qc=>rfl);case Pc=>rfl);case Nc=>rfl
  refine⟨_,rfl,l,[va,vb],rfl,hl,?_⟩
  refine⟨_,rfl,_,rfl,l,_,_,_,rfl,rfl,SqL.of hl,rfl,_,rfl,_,rfl,x,sc,va,r,ks,ts,fs,S,a,k,rfl,hT,hp2,hS,ma,ta,na,ra,fun p1 ua H1 e1 t1 s1=>?_⟩
  refine⟨p1,_,rfl,SqT.of e1,rfl,_,_,rfl,_,_,rfl,rfl,?_⟩
  refine⟨_,rfl,_,rfl,l,_,_,_,rfl,rfl,SqL.of (s1 _ _ hl),rfl,_,rfl,_,rfl,x,sc,vb,r,ks,ts,fs,S,b,k,rfl,hT.same s1,hp2,hS.same s1,mix_same s1 mb,tb,nb,rb,fun p2 ub H2 e2 t2 s2=>?_⟩
  refine⟨p2,_,rfl,SqT.of e2,rfl,_,_,rfl,_,_,rfl,rfl,?_⟩
  refine⟨_,rfl,_,rfl,rfl,_,rfl,iteNS rfl ?_⟩
  refine⟨_,rfl,_,rfl,by show 3≤sizeLine; decide,fun p3 hp3=>?_⟩
  have s3:=same_new hp3 (.tup [.str "=",ua,ub])
  exact q _ _ (.node upd_same (.cons (.leaf _) (.cons (tup_keep (Same.tups (s2.trans s3)) t1) (.cons (tup_keep (Same.tups s3) t2) .nil)))) (s1.trans (s2.trans s3))
abbrev s_checked_binding:Stmt:=top 15
theorem zkf:FnScope ["table","word","things","scope","room","variable","kind","part","inner"] ["table","word","things","scope","room"] (defScope s_checked_binding):=⟨rfl,rfl,rfl,by decide +kernel,rfl,by decide +kernel,by decide +kernel⟩
theorem zkg:LN .globalImplicit s_checked_binding "check_many":=by decide +kernel
theorem zkh:LN .globalImplicit s_checked_binding "checked_saying":=by decide +kernel
theorem zki:LN .globalImplicit s_checked_binding "dict":=by decide +kernel
theorem zkj:LN .local s_checked_binding "inner":=by decide +kernel
theorem zkk:LN .globalImplicit s_checked_binding "is_name":=by decide +kernel
theorem zkl:LN .local s_checked_binding "kind":=by decide +kernel
theorem zkm:LN .local s_checked_binding "part":=by decide +kernel
theorem zkn:LN .local s_checked_binding "room":=by decide +kernel
theorem zko:LN .local s_checked_binding "scope":=by decide +kernel
theorem zkp:LN .local s_checked_binding "table":=by decide +kernel
theorem zkq:LN .local s_checked_binding "things":=by decide +kernel
theorem zkr:LN .local s_checked_binding "variable":=by decide +kernel
theorem zks:LN .local s_checked_binding "word":=by decide +kernel
abbrev s_checked_saying:Stmt:=top 13
theorem zkt:FnScope ["table","thing","scope","room","word","things"] ["table","thing","scope","room"] (defScope s_checked_saying):=⟨rfl,rfl,rfl,by decide +kernel,rfl,by decide +kernel,by decide +kernel⟩
theorem zku:LN .globalImplicit s_checked_saying "check_many":=by decide +kernel
theorem zkv:LN .globalImplicit s_checked_saying "checked_binding":=by decide +kernel
theorem zkw:LN .globalImplicit s_checked_saying "checked_equation":=by decide +kernel
theorem zkx:LN .globalImplicit s_checked_saying "checked_row":=by decide +kernel
theorem zky:LN .cell s_checked_saying "room":=by decide +kernel
theorem zkz:LN .cell s_checked_saying "scope":=by decide +kernel
theorem zk0:LN .cell s_checked_saying "table":=by decide +kernel
theorem zk1:LN .local s_checked_saying "thing":=by decide +kernel
theorem zk2:LN .local s_checked_saying "things":=by decide +kernel
theorem zk3:LN .globalImplicit s_checked_saying "tuple":=by decide +kernel
theorem zk4:LN .local s_checked_saying "word":=by decide +kernel
theorem zk5:LN .globalImplicit s_checked_saying "word_and_things":=by decide +kernel
abbrev QS7:Scope:={kind:=PySem.ScopeKind.function,names:=[ (PySem.Str.ofString ".0",PySem.NameKind.local),(PySem.Str.ofString "part",PySem.NameKind.local),(PySem.Str.ofString "checked_saying",PySem.NameKind.globalImplicit),(PySem.Str.ofString "room",PySem.NameKind.free),(PySem.Str.ofString "scope",PySem.NameKind.free),(PySem.Str.ofString "table",PySem.NameKind.free)],isGenerator:=false,isCoroutine:=false,more:=[]:PySem.Scope}
theorem zk6:CompSc 1 ["part","table","thing","scope","room","word","things"] ["table","thing","scope","room","word","things"] (defScope s_checked_saying) QS7:=⟨rfl,by decide +kernel,by decide +kernel,by decide +kernel,by decide +kernel,rfl,by decide +kernel⟩
theorem zk7:LC .globalImplicit QS7 "checked_saying":=by decide +kernel
theorem zk8:LC .local QS7 "part":=by decide +kernel
theorem zk9:LC .free QS7 "room":=by decide +kernel
theorem zla:LC .free QS7 "scope":=by decide +kernel
theorem zlb:LC .free QS7 "table":=by decide +kernel
def spSay (C:Addr) (n:Nat):Sp:=fun vs H Q _=>∃ (x sc:Addr) (v:V) (r:Int) (ks:List Str) (ts:List TieR) (fs:List FunR) (S:Str→Option Str) (bb:Nat) (t:Tr),vs=[.ref x,v,.ref sc,.int r]∧TabAt C H x ks ts fs∧BookOk ks ts fs∧ScB H sc S bb∧bb+n≤100∧Mix H v t∧IsSy ks ts fs S t∧dep t≤n∧(dep t:Int)≤r∧
 ∀ u H',Tup H' u t→Same H H'→Q u H'
def spBind (C:Addr) (n:Nat):Sp:=fun vs H Q _=>∃ (x sc l:Addr) (r:Int) (ks:List Str) (ts:List TieR) (fs:List FunR) (S:Str→Option Str) (bb:Nat) (wd xn kd:Str) (v:V) (t:Tr),vs=[.ref x,.str wd,.ref l,.ref sc,.int r]∧TabAt C H x ks ts fs∧BookOk ks ts fs∧ScB H sc S bb∧bb+1+n≤100∧H l=some (.lst [.str xn,.str kd,v])∧isNm xn∧kd∈ks∧Mix H v t∧IsSy ks ts fs (scPut S xn kd) t∧dep t≤n∧(dep t:Int)≤r∧
 ∀ u H',Tup H' u (.node [.leaf wd,.leaf xn,.leaf kd,t])→Same H H'→Q u H'
theorem ok_bind_of {C:Addr} (F:FunAt K mg "checked_binding" s_checked_binding ["table","word","things","scope","room"]) (Z:Bl mg) (n_dict:mg "dict"=none) (T:ClT K C) (D_check_many:Def P w K mg base "check_many" 1 ["things","many"] spCheckMany) (D_is_name:Def P w K mg base "is_name" 1 ["thing"] spIsName) (n k:Nat)
  (D_checked_saying:Def P w K mg base "checked_saying" (k+1) ["table","thing","scope","room"] (spSay C n)):Def P w K mg base "checked_binding" (k+2) ["table","word","things","scope","room"] (spBind C n):=by
 have SC:=zkf
 refine F.mk' (k:=k+1) zkf (fun vs H Q E h=>?_) (fun f cdv A outer s H vs Q E hr h=>?_)
 ·obtain⟨x,sc,l,r,ks,ts,fs,S,bb,wd,xn,kd,v,t,rfl,_⟩:=h
  rfl
 ·obtain⟨x,sc,l,r,ks,ts,fs,S,bb,wd,xn,kd,v,t,rfl,hT,ok,hS,hb,hl,hx,hk,hm,hs,hn,hrr,q⟩:=h
  refine'⟨_,?derivation,?_⟩
  case derivation=>refine' pss_cons ?Aa ?Ba;(case Aa=>refine' ps_expr ?Ca rfl;case Ca=>refine' pe_def (hdb:=zht) D_check_many (hr.mono (by omega)) zkg ?Da rfl rfl;case Da=>refine' pa_cons (pq 2 (visL zkq) zia zib) ?Ea ?Fa;(case Ea=>refine' pa_cons ?Ga pa_nil ?Ha;(case Ga=>exact pe_int);case Ha=>rfl);case Fa=>rfl);case Ba=>refine' pss_cons ?Ia ?Ja;(case Ia=>refine' ps_asg ?Ka ?La ?Ma ?Na ?Oa;(case Ka=>exact(pq 2 (visL zkq) zia zib));(case La=>refine' pg_seq rfl ?Pa rfl rfl;case Pa=>refine' pgs_cons ?Qa ?Ra ?Sa;(case Qa=>refine' pg_name (i:=5) (x:=Str.ofString "variable") SC.nd rfl (Or.inl zkr) (.inl rfl));(case Ra=>refine' pgs_cons ?Ta ?Ua ?Va;(case Ta=>refine' pg_name (i:=6) (x:=Str.ofString "kind") SC.nd rfl (Or.inl zkl) (.inl rfl));(case Ua=>refine' pgs_cons ?Wa pgs_nil ?Xa;(case Wa=>refine' pg_name (i:=7) (x:=Str.ofString "part") SC.nd rfl (Or.inl zkm) (.inl rfl));case Xa=>rfl);case Va=>rfl);case Sa=>rfl);(case Ma=>rfl);(case Na=>rfl);case Oa=>rfl);case Ja=>refine' pss_cons ?Ya ?Za;(case Ya=>refine' ps_if ?Ab ?Bb pss_nil;(case Ab=>refine' pt_not ?Cb;case Cb=>refine' pt_val ?Db ?Eb;(case Db=>refine' pe_def (hdb:=zd6) D_is_name (hr.mono (by omega)) zkk ?Fb rfl rfl;case Fb=>refine' pa_cons (pq 5 (visL zkr) zj2 zj3) pa_nil ?Gb;case Gb=>rfl);case Eb=>intro _; rfl);case Bb=>refine' pss_one ps_never);case Za=>refine' pss_cons ?Hb ?Ib;(case Hb=>refine' ps_if ?Jb ?Kb pss_nil;(case Jb=>refine' PW.pt ?Lb;case Lb=>refine' pw_or ?Mb ?Nb;(case Mb=>refine' pt_not ?Ob;case Ob=>refine' pt_val ?Pb ?Qb;(case Pb=>refine' pe_def (hdb:=zd6) D_is_name (hr.mono (by omega)) zkk ?Rb rfl rfl;case Rb=>refine' pa_cons (pq 6 (visL zkl) zd9 zea) pa_nil ?Sb;case Sb=>rfl);case Qb=>intro _; rfl);case Nb=>refine' pw_or1 ?Tb;case Tb=>refine' pt_cmpR op_notIn_seq (pq 6 (visL zkl) zd9 zea) ?Ub (by with_unfolding_all rfl);case Ub=>refine' pe_fld (pq 0 (visL zkp) zh6 zh7) rfl);case Kb=>refine' pss_one ps_never);case Ib=>refine' pss_cons ?Vb ?Wb;(case Vb=>refine' ps_set (i:=8) (x:=Str.ofString "inner") ?Xb ?Yb ?Zb ?Ac ?Bc ?Cc;(case Xb=>exact SC.nd);(case Yb=>exact rfl);(case Zb=>exact(Or.inl zkj));(case Ac=>refine' pe_callTy (hn:=zjp) (hdb:=zjo) call_dictD zki n_dict bt_dict ?Dc rfl rfl;case Dc=>refine' pa_cons (pq 3 (visL zko) zh4 zh5) pa_nil ?Ec;case Ec=>rfl);(case Bc=>rfl);case Cc=>exact .inl rfl);case Wb=>refine' pss_cons ?Fc ?Gc;(case Fc=>refine' ps_dput (hu_of hr) (pq 8 (visL zkj) zjq zjr) (pq 5 (visL zkr) zj2 zj3) (pq 6 (visL zkl) zd9 zea) rfl);case Gc=>refine' pss_one ?Hc;case Hc=>refine' ps_ret ?Ic;case Ic=>refine' pe_tup ?Jc;case Jc=>refine' pa_cons (pq 1 (visL zks) zic zid) ?Kc ?Lc;(case Kc=>refine' pa_cons (pq 5 (visL zkr) zj2 zj3) ?Mc ?Nc;(case Mc=>refine' pa_cons (pq 6 (visL zkl) zd9 zea) ?Oc ?Pc;(case Oc=>refine' pa_cons ?Qc pa_nil ?Rc;(case Qc=>refine' pe_def (hdb:=zjn) D_checked_saying (hr.mono (by omega)) zkh ?Sc rfl rfl;case Sc=>refine' pa_cons (pq 0 (visL zkp) zh6 zh7) ?Tc ?Uc;(case Tc=>refine' pa_cons (pq 7 (visL zkm) zjw zjx) ?Vc ?Wc;(case Vc=>refine' pa_cons (pq 8 (visL zkj) zjq zjr) ?Xc ?Yc;(case Xc=>refine' pa_cons (pq 4 (visL zkn) zh0 zh1) pa_nil ?Zc;case Zc=>rfl);case Yc=>rfl);case Wc=>rfl);case Uc=>rfl);case Rc=>rfl);case Pc=>rfl);case Nc=>rfl);case Lc=>rfl
  refine⟨_,rfl,l,[.str xn,.str kd,v],rfl,hl,?_⟩
  refine⟨_,rfl,l,_,rfl,.inl (SqL.of hl),rfl,_,_,rfl,_,_,rfl,_,_,rfl,rfl,?_⟩
  refine⟨_,rfl,xn,rfl,hx,fun H1 s1=>⟨true,rfl,iteF ?_⟩⟩
  refine⟨_,rfl,kd,rfl,ok.kn2 kd hk,fun H2 s2=>⟨true,rfl,iteF ?_⟩⟩
  have s02:=s1.trans s2
  have hT2:=hT.same s02
  obtain⟨dx,ka,tb,fb,kb,tp,fp,fk,h1,h2,h3,h4,h5,h6,h7,h8⟩:=id hT2
  refine⟨_,rfl,_,rfl,x,C,dx,_,_,rfl,h1,T.cl,T.n1,fa4_1 _ _ _ _,ka,_,rfl,.inl (SqL.of h2),rfl,flat_strs ks,_,rfl,ifF ?_ ?_⟩
  ·rw [inV_strs,decide_eq_true hk]
   decide
  obtain⟨kvs,e1,el,e2⟩:=hS.same s02
  refine⟨_,rfl,sc,kvs,rfl,e1,fun d hd=>?_⟩
  have s3:=same_new hd (.dK kvs)
  refine⟨_,rfl,_,rfl,_,rfl,d,_,rfl,DPut.k (k:=.inr xn) upd_same (Nat.lt_of_le_of_lt (show kvs.length≤100 by omega) (by decide)),?_⟩
  have s4:Same H2 (upd (upd H2 d (.dK kvs)) d (.dK (putK kvs (.inr xn) (.str kd)))):=fun c o e=>by rw [upd_ne (ne_of_none e hd)]; exact s3 c o e
  have eS:ScB (upd (upd H2 d (.dK kvs)) d (.dK (putK kvs (.inr xn) (.str kd)))) d (scPut S xn kd) (bb+1):=by
   refine⟨_,upd_same,Nat.le_trans (length_putK _ _ _) (by omega),fun y=>?_⟩
   rw [valV_put]
   unfold scPut
   by_cases hy:y=xn
   ·rw [if_pos (by rw [hy]),if_pos hy]; rfl
   ·rw [if_neg (fun z=>hy (Sum.inr.inj z)),if_neg hy]; exact e2 y
  generalize (upd (upd H2 d (.dK kvs)) d (.dK (putK kvs (.inr xn) (.str kd))))=H4 at s4 eS
  have s04:=s02.trans s4
  refine⟨_,rfl,_,rfl,_,rfl,_,rfl,_,rfl,_,rfl,_,rfl,x,d,v,r,ks,ts,fs,scPut S xn kd,bb+1,t,rfl,hT.same s04,ok,eS,by omega,mix_same s04 hm,hs,hn,hrr,fun u H5 tu s5=>?_⟩
  refine⟨by show 4≤sizeLine; decide,fun p hp=>?_⟩
  have s6:=same_new hp (.tup [.str wd,.str xn,.str kd,u])
  exact q _ _ (.node upd_same (.cons (.leaf _) (.cons (.leaf _) (.cons (.leaf _) (.cons (tup_keep (Same.tups s6) tu) .nil))))) (s04.trans (s5.trans s6))
def spSay' (C:Addr):Nat→Sp
 | 0=>fun _ _ _ _=>False
 | n+1=>spSay C n
def spBind' (C:Addr):Nat→Sp
 | 0=>fun _ _ _ _=>False
 | n+1=>spBind C n
theorem spSay'_of {C:Addr} {m:Nat} {vs:List V} {H:Hp} {Q:VK} {E:XK} (h:spSay C m vs H Q E):spSay' C (m+1) vs H Q E:=h
theorem spBind'_of {C:Addr} {m:Nat} {vs:List V} {H:Hp} {Q:VK} {E:XK} (h:spBind C m vs H Q E):spBind' C (m+1) vs H Q E:=h
theorem ok_say_of {C:Addr} (F:FunAt K mg "checked_saying" s_checked_saying ["table","thing","scope","room"]) (Z:Bl mg) (T:ClT K C) (D_check_many:Def P w K mg base "check_many" 1 ["things","many"] spCheckMany) (D_word_and_things:Def P w K mg base "word_and_things" 2 ["thing","room"] spWord) (n:Nat)
  (D_checked_equation:Def P w K mg base "checked_equation" (2*n+4) ["table","things","scope","room"] (spEq C n)) (D_checked_row:Def P w K mg base "checked_row" (2*n+4) ["table","things","places","scope","room"] (spRow C n))
  (D_checked_saying:Def P w K mg base "checked_saying" (2*n+3) ["table","thing","scope","room"] (spSay' C n)) (D_checked_binding:Def P w K mg base "checked_binding" (2*n+4) ["table","word","things","scope","room"] (spBind' C n)) :
  Def P w K mg base "checked_saying" (2*n+5) ["table","thing","scope","room"] (spSay C n):=by
 have SC:=zkt
 refine F.mk' (k:=2*n+4) zkt (fun vs H Q E h=>?_) (fun f cdv A outer s H vs Q E hr h=>?_)
 ·obtain⟨x,sc,v,r,ks,ts,fs,S,bb,t,rfl,_⟩:=h
  rfl
 ·obtain⟨x,sc,v,r,ks,ts,fs,S,bb,t,rfl,hT,ok,hS,hb,hm,hs,hn,hrr,q⟩:=h
  refine'⟨_,?derivation,?_⟩
  case derivation=>refine' pss_cons ?Aa ?Ba;(case Aa=>refine' ps_asg ?Ca ?Da ?Ea ?Fa ?Ga;(case Ca=>refine' pe_def (hdb:=zie) D_word_and_things (hr.mono (by omega)) zk5 ?Ha rfl rfl;case Ha=>refine' pa_cons (pq 1 (visL zk1) zep zeq) ?Ia ?Ja;(case Ia=>refine' pa_cons (pq 3 (visC zky) zh0 zh1) pa_nil ?Ka;case Ka=>rfl);case Ja=>rfl);(case Da=>refine' pg_tup rfl ?La rfl rfl;case La=>refine' pgs_cons ?Ma ?Na ?Oa;(case Ma=>refine' pg_name (i:=4) (x:=Str.ofString "word") SC.nd rfl (Or.inl zk4) (.inl rfl));(case Na=>refine' pgs_cons ?Pa pgs_nil ?Qa;(case Pa=>refine' pg_name (i:=5) (x:=Str.ofString "things") SC.nd rfl (Or.inl zk2) (.inl rfl));case Qa=>rfl);case Oa=>rfl);(case Ea=>rfl);(case Fa=>rfl);case Ga=>rfl);case Ba=>refine' pss_cons ?Ra ?Sa;(case Ra=>refine' ps_if ?Ta ?Ua pss_nil;(case Ta=>refine' pt_cmpR op_eq (pq 4 (visL zk4) zic zid) ?Va (nomark _);case Va=>exact pe_str);case Ua=>refine' pss_one ?Wa;case Wa=>refine' ps_ret ?Xa;case Xa=>refine' pe_def (hdb:=zjm) D_checked_equation (hr.mono (by omega)) zkw ?Ya rfl rfl;case Ya=>refine' pa_cons (pq 0 (visC zk0) zh6 zh7) ?Za ?Ab;(case Za=>refine' pa_cons (pq 5 (visL zk2) zia zib) ?Bb ?Cb;(case Bb=>refine' pa_cons (pq 2 (visC zkz) zh4 zh5) ?Db ?Eb;(case Db=>refine' pa_cons ?Fb pa_nil ?Gb;(case Fb=>refine' pe_op op_sub (pq 3 (visC zky) zh0 zh1) ?Hb;case Hb=>exact pe_int);case Gb=>rfl);case Eb=>rfl);case Cb=>rfl);case Ab=>rfl);case Sa=>refine' pss_cons ?Ib ?Jb;(case Ib=>refine' ps_if ?Kb ?Lb pss_nil;(case Kb=>refine' pt_cmpR op_eq (pq 4 (visL zk4) zic zid) ?Mb (nomark _);case Mb=>exact pe_str);case Lb=>refine' pss_one ?Nb;case Nb=>refine' ps_expr ?Ob rfl;case Ob=>refine' pe_def (hdb:=zht) D_check_many (hr.mono (by omega)) zku ?Pb rfl rfl;case Pb=>refine' pa_cons (pq 5 (visL zk2) zia zib) ?Qb ?Rb;(case Qb=>refine' pa_cons ?Sb pa_nil ?Tb;(case Sb=>exact pe_int);case Tb=>rfl);case Rb=>rfl);case Jb=>refine' pss_cons ?Ub ?Vb;(case Ub=>refine' ps_if ?Wb ?Xb pss_nil;(case Wb=>refine' pt_cmpR op_in_seq (pq 4 (visL zk4) zic zid) ?Yb (by with_unfolding_all rfl);case Yb=>refine' pe_tup ?Zb;case Zb=>refine' pa_strs (by repeat constructor));case Xb=>refine' pss_one ?Ac;case Ac=>refine' ps_ret ?Bc;case Bc=>refine' pe_callTy (hn:=zeu) (hdb:=zet) ?Cc zk3 Z.n_tuple bt_tuple ?Dc rfl rfl;(case Cc=>exact call_tuple_of);case Dc=>refine' pa_cons ?Ec pa_nil ?Fc;(case Ec=>refine' pe_op op_cat ?Gc ?Hc;(case Gc=>refine' pe_lst ?Ic;case Ic=>refine' pa_cons (pq 4 (visL zk4) zic zid) pa_nil ?Jc;case Jc=>rfl);case Hc=>refine' pe_comp noxe rfl zk6.at ?Kc ?Lc ?Mc ?Nc;(case Kc=>refine' pi_list (pq 5 (visL zk2) zia zib));(case Lc=>intro _ _ _ _ _;refine' pg_name (i:=0) zk6.nd rfl (locO zk8) (.inr (lookup_relabel_local zk8)));(case Mc=>intro _ _ _ _ _;refine' pe_def (hdb:=zjn) D_checked_saying (hr.mono (by omega)) (glO zk7) ?Oc rfl rfl;case Oc=>refine' pa_cons (pq 1 (visF zlb) zh6 zh7) ?Pc ?Qc;(case Pc=>refine' pa_cons (pq 0 (visO zk8) zjw zjx) ?Rc ?Sc;(case Rc=>refine' pa_cons (pq 3 (visF zla) zh4 zh5) ?Tc ?Uc;(case Tc=>refine' pa_cons ?Vc pa_nil ?Wc;(case Vc=>refine' pe_op op_sub (pq 4 (visF zk9) zh0 zh1) ?Xc;case Xc=>exact pe_int);case Wc=>rfl);case Uc=>rfl);case Sc=>rfl);case Qc=>rfl);case Nc=>intro _; rfl);case Fc=>rfl);case Vb=>refine' pss_cons ?Yc ?Zc;(case Yc=>refine' ps_if ?Ad ?Bd pss_nil;(case Ad=>refine' pt_cmpR op_in_seq (pq 4 (visL zk4) zic zid) ?Cd (by with_unfolding_all rfl);case Cd=>refine' pe_tup ?Dd;case Dd=>refine' pa_cons ?Ed ?Fd ?Gd;(case Ed=>exact pe_str);(case Fd=>refine' pa_cons ?Hd pa_nil ?Id;(case Hd=>exact pe_str);case Id=>rfl);case Gd=>rfl);case Bd=>refine' pss_one ?Jd;case Jd=>refine' ps_ret ?Kd;case Kd=>refine' pe_def (hdb:=zjl) D_checked_binding (hr.mono (by omega)) zkv ?Ld rfl rfl;case Ld=>refine' pa_cons (pq 0 (visC zk0) zh6 zh7) ?Md ?Nd;(case Md=>refine' pa_cons (pq 4 (visL zk4) zic zid) ?Od ?Pd;(case Od=>refine' pa_cons (pq 5 (visL zk2) zia zib) ?Qd ?Rd;(case Qd=>refine' pa_cons (pq 2 (visC zkz) zh4 zh5) ?Sd ?Td;(case Sd=>refine' pa_cons ?Ud pa_nil ?Vd;(case Ud=>refine' pe_op op_sub (pq 3 (visC zky) zh0 zh1) ?Wd;case Wd=>exact pe_int);case Vd=>rfl);case Td=>rfl);case Rd=>rfl);case Pd=>rfl);case Nd=>rfl);case Zc=>refine' pss_cons ?Xd ?Yd;(case Xd=>refine' ps_if ?Zd ?Ae pss_nil;(case Zd=>refine' pt_cmp ?Be (by with_unfolding_all rfl);case Be=>refine' pc_dnotin (hu_of hr) (pq 4 (visL zk4) zic zid) ?Ce;case Ce=>refine' pe_fld (pq 0 (visC zk0) zh6 zh7) rfl);case Ae=>refine' pss_one ps_never);case Yd=>refine' pss_one ?De;case De=>refine' ps_ret ?Ee;case Ee=>refine' pe_callTy (hn:=zeu) (hdb:=zet) ?Fe zk3 Z.n_tuple bt_tuple ?Ge rfl rfl;(case Fe=>exact call_tuple_of);case Ge=>refine' pa_cons ?He pa_nil ?Ie;(case He=>refine' pe_op op_cat ?Je ?Ke;(case Je=>refine' pe_lst ?Le;case Le=>refine' pa_cons (pq 4 (visL zk4) zic zid) pa_nil ?Me;case Me=>rfl);case Ke=>refine' pe_def (hdb:=zhu) D_checked_row (hr.mono (by omega)) zkx ?Ne rfl rfl;case Ne=>refine' pa_cons (pq 0 (visC zk0) zh6 zh7) ?Oe ?Pe;(case Oe=>refine' pa_cons (pq 5 (visL zk2) zia zib) ?Qe ?Re;(case Qe=>refine' pa_cons ?Se ?Te ?Ue;(case Se=>refine' pe_dget (hu_of hr) ?Ve (pq 4 (visL zk4) zic zid) ?We;(case Ve=>refine' pe_fld (pq 0 (visC zk0) zh6 zh7) rfl);case We=>intro _ _;exact rfl);(case Te=>refine' pa_cons (pq 2 (visC zkz) zh4 zh5) ?Xe ?Ye;(case Xe=>refine' pa_cons ?Ze pa_nil ?Af;(case Ze=>refine' pe_op op_sub (pq 3 (visC zky) zh0 zh1) ?Bf;case Bf=>exact pe_int);case Af=>rfl);case Ye=>rfl);case Ue=>rfl);case Re=>rfl);case Pe=>rfl);case Ie=>rfl
  obtain⟨w0,l,rfl,hsA⟩:=hs.as
  rw [dep_node] at hn hrr
  obtain⟨m,rfl⟩:∃ m,n=m+1:=⟨n-1,by omega⟩
  have hp2:∀ f∈fs,f.ps.length≤2:=fun f hf=>(ok.fn f hf).2.1
  refine⟨_,rfl,_,rfl,v,w0,l,r,rfl,hm,by omega,fun p la xs H1 e1 e2 m1 s1=>?_⟩
  refine⟨p,_,rfl,SqT.of e1,rfl,_,_,rfl,_,_,rfl,rfl,?_⟩
  have hT1:=hT.same s1
  have hS1:=hS.same s1
  cases hsA with
  | eq ta tb=>
   rename_i a b k
   cases m1 with
   | cons ma m1=>
   cases m1 with
   | cons mb m1=>
   cases m1
   have da:dep a≤depA [a,b]:=depA_mem List.mem_cons_self
   have db:dep b≤depA [a,b]:=depA_mem (List.mem_cons_of_mem _ List.mem_cons_self)
   refine⟨_,rfl,rfl,_,rfl,ifT (decide_eq_true rfl) ?_⟩
   exact⟨_,rfl,_,rfl,_,rfl,_,rfl,r,1,rfl,rfl,x,sc,la,r-1,ks,ts,fs,S,_,_,a,b,k,rfl,hT1,hp2,hS1.at (by omega),e2,ma,mb,ta,tb,by omega,by omega,by omega,by omega,fun u H' tu s'=>q u H' tu (s1.trans s')⟩
  | conn hw h1 h50 hl=>
   refine⟨_,rfl,rfl,_,rfl,ifF (by simp; exact wd1 _ hw) ?_⟩
   have ml:=m1.length
   refine⟨_,rfl,rfl,_,rfl,ite_both ?rest (fun e h=>⟨_,rfl,la,xs,by rw [ml,h1 (V.str.inj (of_decide_eq_true e))]; rfl,e2,h⟩) (fun _ h=>h)⟩
   refine⟨_,rfl,in_tup (ws:=["not","and","or"]) (by decide) fun tt htt=>⟨_,rfl,ifT (decide_eq_true hw) ?_⟩⟩
   have s2:=s1.trans (same_new htt (.tup (List.map V.str ["not","and","or"])))
   have s12:=same_new htt (.tup (List.map V.str ["not","and","or"]))
   generalize (upd H1 tt (.tup (List.map V.str ["not","and","or"])))=H2 at s2 s12
   refine⟨_,rfl,by show 1≤sizeLine; decide,fun l1 hl1=>?_⟩
   have s3:=same_new hl1 (.lst [.str w0])
   have e3:(upd H2 l1 (.lst [.str w0])) l1=some (.lst [.str w0]):=upd_same
   generalize (upd H2 l1 (.lst [.str w0]))=H3 at s3 e3
   have s13:=s12.trans s3
   refine⟨_,rfl,la,rfl,⟨_,SqL.of (s13 _ _ e2)⟩,?_⟩
   intro cl C1 ex s0 Hc
   refine comp_it1 xs.length (fun i ys H4=>Same H3 H4∧TupA H4 ys (l.take i)) (fun i y=>xs[i]? = some y) ⟨Same.refl _,.nil⟩ (Nat.le_trans (show xs.length≤50 by omega) (by decide))
    (fun i ys H4 hi _ ⟨z,_⟩=>go_list (SqL.of (z _ _ (s13 _ _ e2))) hi) (fun ys H4 _ ⟨z,_⟩=>stop_list (SqL.of (z _ _ (s13 _ _ e2)))) ?_ ?_
   ·rintro i y ys H4 hi hy hyl ⟨s4,t4⟩
    obtain⟨t,ht,hmt⟩:=m1.get hy
    have dt:=depA_mem (List.mem_of_getElem? ht)
    have s14:=s13.trans s4
    refine⟨_,rfl,_,rfl,_,rfl,_,rfl,r,1,rfl,rfl,?_⟩
    unfold tNil
    refine spSay'_of ⟨x,sc,y,r-1,ks,ts,fs,S,bb,t,rfl,hT1.same s14,ok,hS1.same s14,by omega,mix_same s14 hmt,hl.get ht,by omega,by omega,fun u H5 tu s5=>⟨s4.trans s5,?_⟩⟩
    rw [List.take_succ,ht]
    exact(tupA_keep (Same.tups s5) t4).snoc tu
   ·rintro ys H4 hyl ⟨s4,t4⟩ D hD
    rw [ml,List.take_length] at t4
    have s5:=same_new hD (.lst ys)
    refine⟨l1,D,_,_,rfl,rfl,s5 _ _ (s4 _ _ e3),upd_same,Nat.le_trans (show 1+ys.length≤100 by omega) (by decide),fun L hL=>?_⟩
    refine⟨L,_,rfl,.inl ⟨SqL.of upd_same,fun tt2 htt2=>?_⟩⟩
    have s6:=same_new hL (.lst ([.str w0]++ys))
    have s7:=same_new htt2 (.tup ([.str w0]++ys))
    have s47:=s5.trans (s6.trans s7)
    exact q _ _ (.node upd_same (.cons (.leaf _) (tupA_keep (Same.tups s47) t4))) (s1.trans (s13.trans (s4.trans s47)))
  | bind hw hx hk ha=>
   rename_i xn kd a
   cases m1 with
   | cons ma m1=>
   cases m1 with
   | cons mb m1=>
   cases m1 with
   | cons mc m1=>
   cases m1
   cases ma
   cases mb
   have da:dep a≤depA [.leaf xn,.leaf kd,a]:=depA_mem (List.mem_cons_of_mem _ (List.mem_cons_of_mem _ List.mem_cons_self))
   obtain⟨n1,n2,n3⟩:=wd2 _ hw
   refine⟨_,rfl,rfl,_,rfl,ifF (by simp; exact n1) ?_⟩
   refine⟨_,rfl,rfl,_,rfl,ifF (by simp; exact n2) ?_⟩
   refine⟨_,rfl,in_tup (ws:=["not","and","or"]) (by decide) fun tt htt=>⟨_,rfl,ifF (by rw [decide_eq_false n3]; exact Bool.false_ne_true) ?_⟩⟩
   have s2:=same_new htt (.tup (List.map V.str ["not","and","or"]))
   generalize (upd H1 tt (.tup (List.map V.str ["not","and","or"])))=H2 at s2
   refine⟨_,rfl,in_tup (ws:=["all","some"]) (by decide) fun t2 ht2=>⟨_,rfl,ifT (decide_eq_true hw) ?_⟩⟩
   have s3:=s2.trans (same_new ht2 (.tup (List.map V.str ["all","some"])))
   generalize (upd H2 t2 (.tup (List.map V.str ["all","some"])))=H3 at s3
   refine⟨_,rfl,_,rfl,_,rfl,_,rfl,_,rfl,r,1,rfl,rfl,?_⟩
   unfold tNil
   refine spBind'_of ⟨x,sc,la,r-1,ks,ts,fs,S,bb,w0,xn,kd,_,a,rfl,hT1.same s3,ok,hS1.same s3,by omega,s3 _ _ e2,hx,hk,mix_same s3 mc,ha,by omega,by omega,fun u H' tu s'=>q u H' tu (s1.trans (s3.trans s'))⟩
  | tie ht hl=>
   rename_i t
   obtain⟨o1,o2,o3⟩:=ok.tn t ht
   obtain⟨n1,n2,n3,n4⟩:=wd3 o1
   refine⟨_,rfl,rfl,_,rfl,ifF (by simp; exact n1) ?_⟩
   refine⟨_,rfl,rfl,_,rfl,ifF (by simp; exact n2) ?_⟩
   refine⟨_,rfl,in_tup (ws:=["not","and","or"]) (by decide) fun tt htt=>⟨_,rfl,ifF (by rw [decide_eq_false n3]; exact Bool.false_ne_true) ?_⟩⟩
   have s2:=same_new htt (.tup (List.map V.str ["not","and","or"]))
   generalize (upd H1 tt (.tup (List.map V.str ["not","and","or"])))=H2 at s2
   refine⟨_,rfl,in_tup (ws:=["all","some"]) (by decide) fun t2 ht2=>⟨_,rfl,ifF (by rw [decide_eq_false n4]; exact Bool.false_ne_true) ?_⟩⟩
   have s3:=s2.trans (same_new ht2 (.tup (List.map V.str ["all","some"])))
   generalize (upd H2 t2 (.tup (List.map V.str ["all","some"])))=H3 at s3
   have hT3:=hT1.same s3
   obtain⟨dx,ka,tb,fb,kb,tp,fp,fk,h1,h2,h3,h4,h5,h6,h7,h8⟩:=id hT3
   obtain⟨pl,g1,g2⟩:=h6 t ht
   have hg:∀ H',Same H3 H'→DGet H' tb (.str t.nm) (some (.ref pl)):=fun H' s=>by
    have:=DGet.k (k:=.inr t.nm) (s _ _ h3)
    rw [g1] at this
    exact this
   refine⟨_,rfl,_,rfl,x,C,dx,_,_,rfl,h1,T.cl,T.n2,fa4_2 _ _ _ _,tb,_,rfl,hg H3 (Same.refl _),_,rfl,iteF ?_⟩
   refine⟨_,rfl,by show 1≤sizeLine; decide,fun l1 hl1=>?_⟩
   have s4:=same_new hl1 (.lst [.str t.nm])
   have s14:=s3.trans s4
   refine⟨_,rfl,_,rfl,_,rfl,x,C,dx,_,_,rfl,s4 _ _ h1,T.cl,T.n2,fa4_2 _ _ _ _,_,rfl,tb,_,rfl,hg _ s4,_,rfl,_,rfl,r,1,rfl,rfl,x,sc,la,pl,r-1,ks,ts,fs,S,xs,l,t.ps,rfl,hT1.same s14,hp2,(hS1.same s14).at (by omega),s14 _ _ e2,mixA_same s14 m1,s4 _ _ g2,hl,o2,by omega,by omega,fun q' us H4 hq' e3 tu s5=>?_⟩
   have usl:=tu.length
   have ll:=hl.length
   refine⟨l1,q',_,_,rfl,rfl,s5 _ _ upd_same,e3,Nat.le_trans (show 1+us.length≤100 by omega) (by decide),fun L hL=>?_⟩
   refine⟨L,_,rfl,.inl ⟨SqL.of upd_same,fun tt2 htt2=>?_⟩⟩
   have s6:=same_new hL (.lst ([.str t.nm]++us))
   have s7:=same_new htt2 (.tup ([.str t.nm]++us))
   exact q _ _ (.node upd_same (.cons (.leaf _) (tupA_keep (Same.tups (s6.trans s7)) tu))) (s1.trans (s14.trans (s5.trans (s6.trans s7))))
theorem ok_say0 {C:Addr} (F:FunAt K mg "checked_saying" s_checked_saying ["table","thing","scope","room"]):Def P w K mg base "checked_saying" 3 ["table","thing","scope","room"] (spSay' C 0):=
 F.mk' (k:=2) zkt (fun vs H Q E h=>False.elim h) fun f cdv A outer s H vs Q E hr h=>False.elim h
theorem ok_bind0 {C:Addr} (F:FunAt K mg "checked_binding" s_checked_binding ["table","word","things","scope","room"]):Def P w K mg base "checked_binding" 4 ["table","word","things","scope","room"] (spBind' C 0):=
 F.mk' (k:=3) zkf (fun vs H Q E h=>False.elim h) fun f cdv A outer s H vs Q E hr h=>False.elim h
theorem ok_says {C:Addr} (F1:FunAt K mg "checked_saying" s_checked_saying ["table","thing","scope","room"]) (F2:FunAt K mg "checked_binding" s_checked_binding ["table","word","things","scope","room"]) (F3:FunAt K mg "checked_equation" s_checked_equation ["table","things","scope","room"])
  (Z:Bl mg) (T:ClT K C) (n_dict:mg "dict"=none) (D_check_many:Def P w K mg base "check_many" 1 ["things","many"] spCheckMany) (D_word_and_things:Def P w K mg base "word_and_things" 2 ["thing","room"] spWord) (D_is_name:Def P w K mg base "is_name" 1 ["thing"] spIsName)
  (tm:∀ n,Def P w K mg base "checked_term" (2*n+3) ["table","thing","scope","room"] (spTm C n)∧Def P w K mg base "checked_row" (2*n+4) ["table","things","places","scope","room"] (spRow C n)) :
  ∀ n,Def P w K mg base "checked_saying" (2*n+5) ["table","thing","scope","room"] (spSay C n)
 | 0=>ok_say_of F1 Z T D_check_many D_word_and_things 0 (ok_eq F3 Z D_check_many 0 (tm 0).1) (tm 0).2 (ok_say0 F1) (ok_bind0 F2)
 | n+1=>by
  have ih:=ok_says F1 F2 F3 Z T n_dict D_check_many D_word_and_things D_is_name tm n
  exact ok_say_of F1 Z T D_check_many D_word_and_things (n+1) (ok_eq F3 Z D_check_many (n+1) (tm (n+1)).1) (tm (n+1)).2 ih (ok_bind_of F2 Z n_dict T D_check_many D_is_name n (2*n+4) ih)
end
end Few
namespace L2
open PySem PySem.Spec PyProof.Rows
theorem dcomp_list {n:Nat} {K:PySem.W.Frag} {a:Addr} {xs:List V} {g:TG} {tk tv:TE} {σ:St} {H:Hp} {Q:VK} (hz:xs.length≤sizeLine) (Pv:Nat→List (Key×V)→Hp→Prop) (h0:Pv 0 [] H) (hl:∀ i kvs H,i≤xs.length→Pv i kvs H→SqL K H a xs∧kvs.length≤i)
  (hs:∀ (R:St→Hp→List (Key×V)→Prop) i x kvs H (vs:List (Option V)),vs.length=n→xs[i]? = some x→Pv i kvs H→(∀ vs' H4 kvs',List.length vs'=n→Pv (i+1) kvs' H4→R (vs'++σ) H4 kvs')→
   g x (vs++σ) H fun σ2 H2=>tk σ2 H2 fun y H3=>tv σ2 H3 fun v H4=>∃ k,y=kV k∧R σ2 H4 (putK kvs k v))
  (hd:∀ kvs H,Pv xs.length kvs H→∀ D,H D=none→Q (.ref D) (upd H D (.dK kvs))):CompOkD n (Itl K a) g tk tv σ H Q:=by
 refine⟨fun i m kvs σ' H=>i≤xs.length∧m=xs.length-i∧(∃ vs:List (Option V),vs.length=n∧σ'=vs++σ)∧Pv i kvs H,⟨xs.length,Nat.zero_le _,rfl,⟨_,List.length_replicate,rfl⟩,h0⟩,?_⟩
 rintro i m kvs σ' H1 ⟨hi,rfl,⟨vs,hv,rfl⟩,p⟩
 obtain⟨q1,q2⟩:=hl i kvs H1 hi p
 by_cases hlt:i<xs.length
 ·refine .inr ⟨⟨xs,xs[i],q1,by simp [hlt]⟩,Nat.lt_of_le_of_lt q2 (Nat.lt_of_lt_of_le hlt hz),fun x H' y=>?_⟩
  obtain⟨rfl,y⟩:=y
  exact hs (fun σ2 H4 kvs'=>∃ m',m'<xs.length-i∧i+1≤xs.length∧m'=xs.length - (i+1)∧(∃ vs:List (Option V),vs.length=n∧σ2=vs++σ)∧Pv (i+1) kvs' H4) i x kvs _ vs hv (y xs q1) p fun vs' H4 kvs' hv' p'=>⟨_,by omega,hlt,rfl,⟨vs',hv',rfl⟩,p'⟩
 ·have e:i=xs.length:=by omega
  subst e
  exact .inl ⟨⟨xs,q1,Nat.le_refl _⟩,hd kvs H1 p⟩
end L2
namespace Few
open PySem L2
theorem zlc:LD "signs":=by decide +kernel
theorem zld:LS "signs":=by decide +kernel
theorem no_kinds {kt tt ft:Addr}:(flF kt tt ft).lookup ("kinds":Str)=none:=fl_no (by decide +kernel) (by decide +kernel) (by decide +kernel)
theorem no_ties {kt tt ft:Addr}:(flF kt tt ft).lookup ("ties":Str)=none:=fl_no (by decide +kernel) (by decide +kernel) (by decide +kernel)
theorem no_functions {kt tt ft:Addr}:(flF kt tt ft).lookup ("functions":Str)=none:=fl_no (by decide +kernel) (by decide +kernel) (by decide +kernel)
theorem SignsAt.same {C:Addr} {H H':Hp} {x:Addr} {ks:List Str} {ts:List TieR} {fs:List FunR} (h:SignsAt C H x ks ts fs) (s:Same H H'):SignsAt C H' x ks ts fs:=h.keep (fun o e=>s x o e) (Same.tups s)
theorem inj_map {α β:Type} {f:α→β}:∀ {l:List α},(l.map f).Nodup→∀ {x y:α},x∈l→y∈l→f x=f y→x=y
 | [],_,_,_,h,_,_=>nomatch h
 | a::r,n,x,y,hx,hy,e=>by
  rw [List.map_cons,List.nodup_cons] at n
  rcases List.mem_cons.mp hx with ex | ux <;> rcases List.mem_cons.mp hy with ey | uy
  ·rw [ex,ey]
  ·rw [ex] at e
   exact absurd (List.mem_map.mpr ⟨y,uy,e.symm⟩) n.1
  ·rw [ey] at e
   exact absurd (List.mem_map.mpr ⟨x,ux,e⟩) n.1
  ·exact inj_map n.2 ux uy e
theorem put_all {α:Type} {nm:α→Str} {G:α→V→Prop} {l:List α} {i:Nat} {t:α} {kvs:List (Key×V)} {v:V} (nd:(l.map nm).Nodup) (ht:l[i]? = some t) (h:∀ u∈l.take i,∃ y,valV kvs (.inr (nm u))=some y∧G u y) (g:G t v) :
  ∀ u∈l.take (i+1),∃ y,valV (putK kvs (.inr (nm t)) v) (.inr (nm u))=some y∧G u y:=fun u hu=>by
 rw [valV_put]
 by_cases e:nm u=nm t
 ·have : u=t:=inj_map nd (List.mem_of_mem_take hu) (List.mem_of_getElem? ht) e
  subst this
  exact⟨v,by rw [if_pos rfl],g⟩
 ·rw [if_neg (fun z=>e (Sum.inr.inj z))]
  rw [List.take_succ,ht] at hu
  rcases List.mem_append.mp hu with hu | hu
  ·exact h u hu
  ·have : u=t:=(Option.some.inj (Option.mem_toList.mp hu)).symm
   exact absurd (by rw [this]) e
theorem dc_ties {K:PySem.W.Frag} {σ:St} {H:Hp} {l:Addr} {tv:List V} {ts:List TieR} {Q:VK} (hl:H l=some (.lst tv)) (rt:RdA Any H tv (ts.map tieT)) (nd:(ts.map (·.nm)).Nodup) (h8:ts.length≤8)
  (hQ:∀ D kvs,H D=none→(∀ t∈ts,∃ y,valV kvs (.inr t.nm)=some y∧∃ q,y=.ref q∧H q=some (.tup (t.ps.map V.str)))→Q (.ref D) (upd H D (.dK kvs))):CompOkD 2 (Itl K l) (gTup K 2 (gCons (gName 0) (gCons (gName 1) gNil))) (tVar 0) (tVar 1) σ H Q:=by
 have tl:tv.length=ts.length:=by rw [rt.length,List.length_map]
 refine dcomp_list (a:=l) (xs:=tv) (Nat.le_trans (show tv.length≤8 by omega) (by decide)) (fun i kvs H2=>H2=H∧kvs.length≤i∧∀ t∈ts.take i,∃ y,valV kvs (.inr t.nm)=some y∧∃ q,y=.ref q∧H q=some (.tup (t.ps.map V.str))) ⟨rfl,Nat.le_refl _,fun _ z=>nomatch z⟩ (fun i kvs H2 _ ⟨e,n,_⟩=>⟨by rw [e]; exact SqL.of hl,n⟩) ?_ ?_
 ·rintro R i y kvs H2 vs hv hy ⟨rfl,hn,hk⟩ fin
  obtain⟨v0,v1,rfl⟩:∃ v0 v1,vs=[v0,v1]:=by
   match vs,hv with
   | [a,b],_=>exact⟨a,b,rfl⟩
  obtain⟨d,hd,rd⟩:=rt.getV hy
  rw [List.getElem?_map] at hd
  obtain⟨t,ht,rfl⟩:=Option.map_eq_some_iff.mp hd
  obtain⟨py,px,rfl,_,hpy,hpx⟩:=RdV.tuple_inv rd
  obtain⟨a1,a2,rfl,r1,r2⟩:=hpx.two
  obtain rfl:=r1.str_inv
  obtain⟨pp,ppx,rfl,_,hpp,hps⟩:=r2.tuple_inv
  obtain rfl:=hps.strs_inv
  refine⟨py,_,rfl,SqT.of hpy,rfl,_,_,rfl,_,_,rfl,rfl,?_⟩
  refine⟨_,rfl,_,rfl,.inr t.nm,rfl,fin [some (.str t.nm),some (.ref pp)] _ _ rfl ⟨rfl,Nat.le_trans (length_putK _ _ _) (by omega),put_all (nm:=TieR.nm) (G:=fun t y=>∃ q,y=.ref q∧H2 q=some (.tup (t.ps.map V.str))) nd ht hk ⟨pp,rfl,hpp⟩⟩⟩
 ·rintro kvs H2 ⟨rfl,_,hk⟩ D hD
  rw [tl,List.take_length] at hk
  exact hQ D kvs hD hk
theorem dc_funP {K:PySem.W.Frag} {σ:St} {H:Hp} {l:Addr} {tv:List V} {ts:List FunR} {Q:VK} (hl:H l=some (.lst tv)) (rt:RdA Any H tv (ts.map funT)) (nd:(ts.map (·.nm)).Nodup) (h8:ts.length≤8)
  (hQ:∀ D kvs,H D=none→(∀ t∈ts,∃ y,valV kvs (.inr t.nm)=some y∧∃ q,y=.ref q∧H q=some (.tup (t.ps.map V.str)))→Q (.ref D) (upd H D (.dK kvs))):CompOkD 3 (Itl K l) (gTup K 3 (gCons (gName 0) (gCons (gName 1) (gCons (gName 2) gNil)))) (tVar 0) (tVar 1) σ H Q:=by
 have tl:tv.length=ts.length:=by rw [rt.length,List.length_map]
 refine dcomp_list (a:=l) (xs:=tv) (Nat.le_trans (show tv.length≤8 by omega) (by decide)) (fun i kvs H2=>H2=H∧kvs.length≤i∧∀ t∈ts.take i,∃ y,valV kvs (.inr t.nm)=some y∧∃ q,y=.ref q∧H q=some (.tup (t.ps.map V.str))) ⟨rfl,Nat.le_refl _,fun _ z=>nomatch z⟩ (fun i kvs H2 _ ⟨e,n,_⟩=>⟨by rw [e]; exact SqL.of hl,n⟩) ?_ ?_
 ·rintro R i y kvs H2 vs hv hy ⟨rfl,hn,hk⟩ fin
  obtain⟨v0,v1,v2,rfl⟩:∃ v0 v1 v2,vs=[v0,v1,v2]:=by
   match vs,hv with
   | [a,b,c],_=>exact⟨a,b,c,rfl⟩
  obtain⟨d,hd,rd⟩:=rt.getV hy
  rw [List.getElem?_map] at hd
  obtain⟨t,ht,rfl⟩:=Option.map_eq_some_iff.mp hd
  obtain⟨py,px,rfl,_,hpy,hpx⟩:=RdV.tuple_inv rd
  obtain⟨a1,a2,a3,rfl,r1,r2,r3⟩:=hpx.three
  obtain rfl:=r1.str_inv
  obtain rfl:=r3.str_inv
  obtain⟨pp,ppx,rfl,_,hpp,hps⟩:=r2.tuple_inv
  obtain rfl:=hps.strs_inv
  refine⟨py,_,rfl,SqT.of hpy,rfl,_,_,rfl,_,_,rfl,_,_,rfl,rfl,?_⟩
  refine⟨_,rfl,_,rfl,.inr t.nm,rfl,fin [some (.str t.nm),some (.ref pp),some (.str t.kd)] _ _ rfl ⟨rfl,Nat.le_trans (length_putK _ _ _) (by omega),put_all (nm:=FunR.nm) (G:=fun t y=>∃ q,y=.ref q∧H2 q=some (.tup (t.ps.map V.str))) nd ht hk ⟨pp,rfl,hpp⟩⟩⟩
 ·rintro kvs H2 ⟨rfl,_,hk⟩ D hD
  rw [tl,List.take_length] at hk
  exact hQ D kvs hD hk
theorem dc_funK {K:PySem.W.Frag} {σ:St} {H:Hp} {l:Addr} {tv:List V} {ts:List FunR} {Q:VK} (hl:H l=some (.lst tv)) (rt:RdA Any H tv (ts.map funT)) (nd:(ts.map (·.nm)).Nodup) (h8:ts.length≤8)
  (hQ:∀ D kvs,H D=none→(∀ t∈ts,∃ y,valV kvs (.inr t.nm)=some y∧y=.str t.kd)→Q (.ref D) (upd H D (.dK kvs))):CompOkD 3 (Itl K l) (gTup K 3 (gCons (gName 0) (gCons (gName 1) (gCons (gName 2) gNil)))) (tVar 0) (tVar 2) σ H Q:=by
 have tl:tv.length=ts.length:=by rw [rt.length,List.length_map]
 refine dcomp_list (a:=l) (xs:=tv) (Nat.le_trans (show tv.length≤8 by omega) (by decide)) (fun i kvs H2=>H2=H∧kvs.length≤i∧∀ t∈ts.take i,∃ y,valV kvs (.inr t.nm)=some y∧y=.str t.kd) ⟨rfl,Nat.le_refl _,fun _ z=>nomatch z⟩ (fun i kvs H2 _ ⟨e,n,_⟩=>⟨by rw [e]; exact SqL.of hl,n⟩) ?_ ?_
 ·rintro R i y kvs H2 vs hv hy ⟨rfl,hn,hk⟩ fin
  obtain⟨v0,v1,v2,rfl⟩:∃ v0 v1 v2,vs=[v0,v1,v2]:=by
   match vs,hv with
   | [a,b,c],_=>exact⟨a,b,c,rfl⟩
  obtain⟨d,hd,rd⟩:=rt.getV hy
  rw [List.getElem?_map] at hd
  obtain⟨t,ht,rfl⟩:=Option.map_eq_some_iff.mp hd
  obtain⟨py,px,rfl,_,hpy,hpx⟩:=RdV.tuple_inv rd
  obtain⟨a1,a2,a3,rfl,r1,r2,r3⟩:=hpx.three
  obtain rfl:=r1.str_inv
  obtain rfl:=r3.str_inv
  refine⟨py,_,rfl,SqT.of hpy,rfl,_,_,rfl,_,_,rfl,_,_,rfl,rfl,?_⟩
  refine⟨_,rfl,_,rfl,.inr t.nm,rfl,fin [some (.str t.nm),some a2,some (.str t.kd)] _ _ rfl ⟨rfl,Nat.le_trans (length_putK _ _ _) (by omega),put_all (nm:=FunR.nm) (G:=fun t y=>y=.str t.kd) nd ht hk rfl⟩⟩
 ·rintro kvs H2 ⟨rfl,_,hk⟩ D hD
  rw [tl,List.take_length] at hk
  exact hQ D kvs hD hk
theorem fa1_len (a:Addr):(fa1 a).length<1000:=Nat.lt_of_le_of_lt (length_putF _ _ _) (by decide)
theorem fa2_len (a b:Addr):(fa2 a b).length<1000:=by
 have h1:=length_putF (Str.ofString "known_kinds") (.ref a) []
 have h2:=length_putF (Str.ofString "tie_places") (.ref b) (fa1 a)
 show (putF (Str.ofString "tie_places") (.ref b) (fa1 a)).length<1000
 have h3:(fa1 a).length≤1:=h1
 omega
theorem fa3_len (a b c:Addr):(fa3 a b c).length<1000:=by
 have h1:(fa1 a).length≤1:=length_putF (Str.ofString "known_kinds") (.ref a) []
 have h2:(fa2 a b).length≤(fa1 a).length+1:=length_putF (Str.ofString "tie_places") (.ref b) (fa1 a)
 have h3:(fa3 a b c).length≤(fa2 a b).length+1:=length_putF (Str.ofString "function_places") (.ref c) (fa2 a b)
 omega
section
variable {P:Program} {w:World} {K:PySem.W.Frag} {mg:Str→Option Value} {base:Heap}
abbrev s_SignTable__init__:Stmt:=inClass (top 11) 0
theorem zle:FnScope ["self","signs"] ["self","signs"] (defScope s_SignTable__init__):=⟨rfl,rfl,rfl,by decide +kernel,rfl,by decide +kernel,by decide +kernel⟩
theorem zlf:LN .local s_SignTable__init__ "self":=by decide +kernel
theorem zlg:LN .local s_SignTable__init__ "signs":=by decide +kernel
abbrev QS8:Scope:={kind:=PySem.ScopeKind.function,names:=[ (PySem.Str.ofString ".0",PySem.NameKind.local),(PySem.Str.ofString "name",PySem.NameKind.local),(PySem.Str.ofString "places",PySem.NameKind.local),(PySem.Str.ofString "kind",PySem.NameKind.local)],isGenerator:=false,isCoroutine:=false,more:=[]:PySem.Scope}
theorem zlh:CompSc 3 ["name","places","kind","self","signs"] ["self","signs"] (defScope s_SignTable__init__) QS8:=⟨rfl,by decide +kernel,by decide +kernel,by decide +kernel,by decide +kernel,rfl,by decide +kernel⟩
theorem zli:LC .local QS8 "kind":=by decide +kernel
theorem zlj:LC .local QS8 "name":=by decide +kernel
theorem zlk:LC .local QS8 "places":=by decide +kernel
theorem zll:CompSc 3 ["name","places","kind","self","signs"] ["self","signs"] (defScope s_SignTable__init__) QS8:=⟨rfl,by decide +kernel,by decide +kernel,by decide +kernel,by decide +kernel,rfl,by decide +kernel⟩
theorem zlm:LC .local QS8 "kind":=by decide +kernel
theorem zln:LC .local QS8 "name":=by decide +kernel
theorem zlo:LC .local QS8 "places":=by decide +kernel
abbrev QS9:Scope:={kind:=PySem.ScopeKind.function,names:=[ (PySem.Str.ofString ".0",PySem.NameKind.local),(PySem.Str.ofString "name",PySem.NameKind.local),(PySem.Str.ofString "places",PySem.NameKind.local)],isGenerator:=false,isCoroutine:=false,more:=[]:PySem.Scope}
theorem zlp:CompSc 2 ["name","places","self","signs"] ["self","signs"] (defScope s_SignTable__init__) QS9:=⟨rfl,by decide +kernel,by decide +kernel,by decide +kernel,by decide +kernel,rfl,by decide +kernel⟩
theorem zlq:LC .local QS9 "name":=by decide +kernel
theorem zlr:LC .local QS9 "places":=by decide +kernel
def spTabInit (C CT:Addr):Sp:=fun vs H Q _=>∃ (x dx g:Addr) (ks:List Str) (ts:List TieR) (fs:List FunR),vs=[.ref x,.ref g]∧H x=some (.ins CT dx [])∧SignsAt C H g ks ts fs∧BookOk ks ts fs∧∀ H',TabAt CT H' x ks ts fs→SameX x H H'→Q .non H'
theorem ok_tabinit {f C CT f1 f2 f3:Addr} {fd fd1 fd2 fd3:FuncData} (F:Fun K "__init__" "SignTable.__init__" s_SignTable__init__ f fd) (Z:Bl mg) (T:ClS K C) (TT:ClT K CT)
  (m_kinds:Meth K C "kinds" f1) (G_kinds:FnOk P w K mg base CX0 1 f1 fd1 ["self"] (spTellK C)) (b_kinds:Binds K fd1 ["self"] [])
  (m_ties:Meth K C "ties" f2) (G_ties:FnOk P w K mg base CX0 1 f2 fd2 ["self"] (spTellT C)) (b_ties:Binds K fd2 ["self"] [])
  (m_functions:Meth K C "functions" f3) (G_functions:FnOk P w K mg base CX0 1 f3 fd3 ["self"] (spTellF C)) (b_functions:Binds K fd3 ["self"] []) :
  FnOk P w K mg base CX0 2 f fd ["self","signs"] (spTabInit C CT):=by
 have SC:=zle
 refine F.ok zle (fun vs H Q E h=>?_) (fun cdv A outer s H vs Q E hr h=>?_)
 ·obtain⟨x,dx,g,ks,ts,fs,rfl,_⟩:=h
  rfl
 ·obtain⟨x,dx,g,ks,ts,fs,rfl,hx,hS,ok,q⟩:=h
  refine'⟨_,?derivation,?_⟩
  case derivation=>refine' pss_cons ?Aa ?Ba;(case Aa=>refine' ps_fld (pq 0 (visL zlf) zgv zgw) ?Ca rfl;case Ca=>refine' pe_meth0 (pq 1 (visL zlg) zlc zld) T.cl m_kinds G_kinds (hr.mono (by decide)) b_kinds .nil pass0 rfl);case Ba=>refine' pss_cons ?Da ?Ea;(case Da=>refine' ps_fld (pq 0 (visL zlf) zgv zgw) ?Fa rfl;case Fa=>refine' pe_dcomp framed_of rfl zlp.at ?Ga ?Ha ?Ia ?Ja ?Ka;(case Ga=>refine' pi_list ?La;case La=>refine' pe_meth0 (pq 1 (visL zlg) zlc zld) T.cl m_ties G_ties (hr.mono (by decide)) b_ties .nil pass0 rfl);(case Ha=>intro _ _ _ _ _;refine' pg_tup rfl ?Ma rfl rfl;case Ma=>refine' pgs_cons ?Na ?Oa ?Pa;(case Na=>refine' pg_name (i:=0) zlp.nd rfl (locO zlq) (.inr (lookup_relabel_local zlq)));(case Oa=>refine' pgs_cons ?Qa pgs_nil ?Ra;(case Qa=>refine' pg_name (i:=1) zlp.nd rfl (locO zlr) (.inr (lookup_relabel_local zlr)));case Ra=>rfl);case Pa=>rfl);(case Ia=>intro _ _ _ _ _;exact(pq 0 (visO zlq) zed zee));(case Ja=>intro _ _ _ _ _;exact(pq 1 (visO zlr) zeh zei));case Ka=>intro _; rfl);case Ea=>refine' pss_cons ?Sa ?Ta;(case Sa=>refine' ps_fld (pq 0 (visL zlf) zgv zgw) ?Ua rfl;case Ua=>refine' pe_dcomp framed_of rfl zll.at ?Va ?Wa ?Xa ?Ya ?Za;(case Va=>refine' pi_list ?Ab;case Ab=>refine' pe_meth0 (pq 1 (visL zlg) zlc zld) T.cl m_functions G_functions (hr.mono (by decide)) b_functions .nil pass0 rfl);(case Wa=>intro _ _ _ _ _;refine' pg_tup rfl ?Bb rfl rfl;case Bb=>refine' pgs_cons ?Cb ?Db ?Eb;(case Cb=>refine' pg_name (i:=0) zll.nd rfl (locO zln) (.inr (lookup_relabel_local zln)));(case Db=>refine' pgs_cons ?Fb ?Gb ?Hb;(case Fb=>refine' pg_name (i:=1) zll.nd rfl (locO zlo) (.inr (lookup_relabel_local zlo)));(case Gb=>refine' pgs_cons ?Ib pgs_nil ?Jb;(case Ib=>refine' pg_name (i:=2) zll.nd rfl (locO zlm) (.inr (lookup_relabel_local zlm)));case Jb=>rfl);case Hb=>rfl);case Eb=>rfl);(case Xa=>intro _ _ _ _ _;exact(pq 0 (visO zln) zed zee));(case Ya=>intro _ _ _ _ _;exact(pq 1 (visO zlo) zeh zei));case Za=>intro _; rfl);case Ta=>refine' pss_one ?Kb;case Kb=>refine' ps_fld (pq 0 (visL zlf) zgv zgw) ?Lb rfl;case Lb=>refine' pe_dcomp framed_of rfl zlh.at ?Mb ?Nb ?Ob ?Pb ?Qb;(case Mb=>refine' pi_list ?Rb;case Rb=>refine' pe_meth0 (pq 1 (visL zlg) zlc zld) T.cl m_functions G_functions (hr.mono (by decide)) b_functions .nil pass0 rfl);(case Nb=>intro _ _ _ _ _;refine' pg_tup rfl ?Sb rfl rfl;case Sb=>refine' pgs_cons ?Tb ?Ub ?Vb;(case Tb=>refine' pg_name (i:=0) zlh.nd rfl (locO zlj) (.inr (lookup_relabel_local zlj)));(case Ub=>refine' pgs_cons ?Wb ?Xb ?Yb;(case Wb=>refine' pg_name (i:=1) zlh.nd rfl (locO zlk) (.inr (lookup_relabel_local zlk)));(case Xb=>refine' pgs_cons ?Zb pgs_nil ?Ac;(case Zb=>refine' pg_name (i:=2) zlh.nd rfl (locO zli) (.inr (lookup_relabel_local zli)));case Ac=>rfl);case Yb=>rfl);case Vb=>rfl);(case Ob=>intro _ _ _ _ _;exact(pq 0 (visO zlj) zed zee));(case Pb=>intro _ _ _ _ _;exact(pq 2 (visO zli) zd9 zea));case Qb=>intro _; rfl
  obtain⟨dg,_,_,_,_,_,g2,_⟩:=id hS
  have gx:g≠x:=by rintro rfl; rw [hx] at g2; cases g2
  have sl:=ok.sl
  have nd:=List.nodup_append.mp ok.sn
  have tx:∀ {G:Hp} {c:Addr} {o:HO},G x=some (.ins CT dx [])∨(∃ fl,G x=some (.ins CT dx fl))→Tups G (upd G x o):=fun {G c o} h p xs e=>by
   rw [upd_ne (fun z=>by rcases h with h | ⟨fl,h⟩ <;> (rw [z,h] at e; cases e))]; exact e
  refine⟨_,rfl,g,dg,_,rfl,g2,no_kinds,g,ks,ts,fs,rfl,hS,fun a ha=>?_⟩
  have s1:=same_new ha (.lst (ks.map V.str))
  refine⟨_,rfl,x,CT,dx,_,rfl,s1 _ _ hx,TT.cl,TT.n1,by decide,?_⟩
  have nax:a≠x:=by rintro rfl; rw [hx] at ha; cases ha
  have S1:SameX x H (upd (upd H a (.lst (ks.map V.str))) x (.ins CT dx (putF "known_kinds" (.ref a) []))):=s1.x.trans (SameX.upd _ _ _)
  have a1:(upd (upd H a (.lst (ks.map V.str))) x (.ins CT dx (putF "known_kinds" (.ref a) []))) a=some (.lst (ks.map V.str)):=by rw [upd_ne nax]; exact upd_same
  have x1:(upd (upd H a (.lst (ks.map V.str))) x (.ins CT dx (putF "known_kinds" (.ref a) []))) x=some (.ins CT dx (fa1 a)):=upd_same
  have gS1:SignsAt C (upd (upd H a (.lst (ks.map V.str))) x (.ins CT dx (putF "known_kinds" (.ref a) []))) g ks ts fs:=(hS.same s1).keep (fun o e=>SameX.upd x _ _ g o gx e) (tx (c:=a) (.inl (s1 _ _ hx)))
  generalize (upd (upd H a (.lst (ks.map V.str))) x (.ins CT dx (putF "known_kinds" (.ref a) [])))=H1 at S1 a1 x1 gS1
  obtain⟨dg1,_,_,_,_,_,g21,_⟩:=id gS1
  refine⟨_,rfl,g,dg1,_,rfl,g21,no_ties,g,ks,ts,fs,rfl,gS1,fun l tv hl rt=>⟨l,rfl,⟨_,SqL.of upd_same⟩,?_⟩⟩
  intro cl C1 ex s0 Hc
  refine dc_ties (K:=K) upd_same (rt.same (same_new hl _)) nd.1 (by omega) fun b tp hb hk=>?_
  have s2:=(same_new hl (.lst tv)).trans (same_new hb (.dK tp))
  have b2:(upd (upd H1 l (.lst tv)) b (.dK tp)) b=some (.dK tp):=upd_same
  have hk2:∀ t∈ts,∃ q,valV tp (.inr t.nm)=some (.ref q)∧(upd (upd H1 l (.lst tv)) b (.dK tp)) q=some (.tup (t.ps.map V.str)):=fun t ht=>by
   obtain⟨y,e1,q',rfl,e2⟩:=hk t ht
   exact⟨q',e1,same_new hb _ _ _ e2⟩
  generalize (upd (upd H1 l (.lst tv)) b (.dK tp))=G2 at s2 b2 hk2
  refine⟨_,rfl,x,CT,dx,_,rfl,s2 _ _ x1,TT.cl,TT.n2,fa1_len _,?_⟩
  have nbx:b≠x:=by rintro rfl; rw [s2 _ _ x1] at b2; cases b2
  have T2:Tups G2 (upd G2 x (.ins CT dx (putF "tie_places" (.ref b) (fa1 a)))):=tx (c:=a) (.inr ⟨_,s2 _ _ x1⟩)
  have S2:SameX x H1 (upd G2 x (.ins CT dx (putF "tie_places" (.ref b) (fa1 a)))):=s2.x.trans (SameX.upd _ _ _)
  have x2:(upd G2 x (.ins CT dx (putF "tie_places" (.ref b) (fa1 a)))) x=some (.ins CT dx (fa2 a b)):=upd_same
  have b2':(upd G2 x (.ins CT dx (putF "tie_places" (.ref b) (fa1 a)))) b=some (.dK tp):=by rw [upd_ne nbx]; exact b2
  have gS2:SignsAt C (upd G2 x (.ins CT dx (putF "tie_places" (.ref b) (fa1 a)))) g ks ts fs:=(gS1.same s2).keep (fun o e=>SameX.upd x _ _ g o gx e) T2
  generalize (upd G2 x (.ins CT dx (putF "tie_places" (.ref b) (fa1 a))))=H2 at T2 S2 x2 b2' gS2
  obtain⟨dg2,_,_,_,_,_,g22,_⟩:=id gS2
  refine⟨_,rfl,g,dg2,_,rfl,g22,no_functions,g,ks,ts,fs,rfl,gS2,fun l3 fv hl3 rf=>⟨l3,rfl,⟨_,SqL.of upd_same⟩,?_⟩⟩
  intro cl C1 ex s0 Hc
  refine dc_funP (K:=K) upd_same (rf.same (same_new hl3 _)) nd.2.1 (by omega) fun c fp hc hk3=>?_
  have s3:=(same_new hl3 (.lst fv)).trans (same_new hc (.dK fp))
  have c3:(upd (upd H2 l3 (.lst fv)) c (.dK fp)) c=some (.dK fp):=upd_same
  have hk3':∀ t∈fs,∃ q,valV fp (.inr t.nm)=some (.ref q)∧(upd (upd H2 l3 (.lst fv)) c (.dK fp)) q=some (.tup (t.ps.map V.str)):=fun t ht=>by
   obtain⟨y,e1,q',rfl,e2⟩:=hk3 t ht
   exact⟨q',e1,same_new hc _ _ _ e2⟩
  generalize (upd (upd H2 l3 (.lst fv)) c (.dK fp))=G3 at s3 c3 hk3'
  refine⟨_,rfl,x,CT,dx,_,rfl,s3 _ _ x2,TT.cl,TT.n3,fa2_len _ _,?_⟩
  have ncx:c≠x:=by rintro rfl; rw [s3 _ _ x2] at c3; cases c3
  have T3:Tups G3 (upd G3 x (.ins CT dx (putF "function_places" (.ref c) (fa2 a b)))):=tx (c:=a) (.inr ⟨_,s3 _ _ x2⟩)
  have S3:SameX x H2 (upd G3 x (.ins CT dx (putF "function_places" (.ref c) (fa2 a b)))):=s3.x.trans (SameX.upd _ _ _)
  have x3:(upd G3 x (.ins CT dx (putF "function_places" (.ref c) (fa2 a b)))) x=some (.ins CT dx (fa3 a b c)):=upd_same
  have c3':(upd G3 x (.ins CT dx (putF "function_places" (.ref c) (fa2 a b)))) c=some (.dK fp):=by rw [upd_ne ncx]; exact c3
  have gS3:SignsAt C (upd G3 x (.ins CT dx (putF "function_places" (.ref c) (fa2 a b)))) g ks ts fs:=(gS2.same s3).keep (fun o e=>SameX.upd x _ _ g o gx e) T3
  generalize (upd G3 x (.ins CT dx (putF "function_places" (.ref c) (fa2 a b))))=H3 at T3 S3 x3 c3' gS3
  obtain⟨dg3,_,_,_,_,_,g23,_⟩:=id gS3
  refine⟨_,rfl,g,dg3,_,rfl,g23,no_functions,g,ks,ts,fs,rfl,gS3,fun l4 fv4 hl4 rf4=>⟨l4,rfl,⟨_,SqL.of upd_same⟩,?_⟩⟩
  intro cl C1 ex s0 Hc
  refine dc_funK (K:=K) upd_same (rf4.same (same_new hl4 _)) nd.2.1 (by omega) fun d fk hd hk4=>?_
  have s4:=(same_new hl4 (.lst fv4)).trans (same_new hd (.dK fk))
  have d4:(upd (upd H3 l4 (.lst fv4)) d (.dK fk)) d=some (.dK fk):=upd_same
  generalize (upd (upd H3 l4 (.lst fv4)) d (.dK fk))=G4 at s4 d4
  refine⟨_,rfl,x,CT,dx,_,rfl,s4 _ _ x3,TT.cl,TT.n4,fa3_len _ _ _,?_⟩
  have ndx:d≠x:=by rintro rfl; rw [s4 _ _ x3] at d4; cases d4
  have T4:Tups G4 (upd G4 x (.ins CT dx (putF "function_kinds" (.ref d) (fa3 a b c)))):=tx (c:=a) (.inr ⟨_,s4 _ _ x3⟩)
  have S4:SameX x H3 (upd G4 x (.ins CT dx (putF "function_kinds" (.ref d) (fa3 a b c)))):=s4.x.trans (SameX.upd _ _ _)
  have T34:Tups H3 (upd G4 x (.ins CT dx (putF "function_kinds" (.ref d) (fa3 a b c)))):=fun p xs e=>T4 p xs (s4 _ _ e)
  have T24:Tups H2 (upd G4 x (.ins CT dx (putF "function_kinds" (.ref d) (fa3 a b c)))):=fun p xs e=>T34 p xs (T3 p xs (s3 _ _ e))
  refine q _ ⟨dx,a,b,c,d,tp,fp,fk,upd_same,S4 _ _ nax (S3 _ _ nax (S2 _ _ nax a1)),S4 _ _ nbx (S3 _ _ nbx b2'),S4 _ _ ncx c3',by rw [upd_ne ndx]; exact d4,fun t ht=>?_,fun t ht=>?_,fun t ht=>?_⟩ (S1.trans (S2.trans (S3.trans S4)))
  ·obtain⟨q',e1,e2⟩:=hk2 t ht
   exact⟨q',e1,T24 _ _ (T2 _ _ e2)⟩
  ·obtain⟨q',e1,e2⟩:=hk3' t ht
   exact⟨q',e1,T34 _ _ (T3 _ _ e2)⟩
  ·obtain⟨y,e1,rfl⟩:=hk4 t ht
   exact e1
end
theorem zls:LD "written":=by decide +kernel
mutual
def wr:Tr→Str
 | .leaf x=>x
 | .node ts=>(("(":Str)++Str.join " " (wrA ts))++")"
def wrA:List Tr→List Str
 | []=>[]
 | t::ts=>wr t::wrA ts
end
theorem wrA_eq:∀ ts:List Tr,wrA ts=ts.map wr
 | []=>by rw [wrA]; rfl
 | t::ts=>by rw [wrA,wrA_eq ts]; rfl
theorem len_app (a b:Str):(a++b).length=a.length+b.length:=by
 show (a.cps++b.cps).size=a.cps.size+b.cps.size
 simp
theorem join_sum:∀ ts:List Str,(ts.map (·.length)).sum+ts.length≤(Str.join " " ts).length+1
 | []=>by simp
 | [x]=>by
  show x.length+0+1≤x.length+1
  omega
 | x::y::r=>by
  have ih:=join_sum (y::r)
  have e:(Str.join " " (x::y::r)).length=x.length+1+(Str.join " " (y::r)).length:=by
   show (x++(" ":Str)++Str.join " " (y::r)).length=_
   rw [len_app,len_app]; rfl
  rw [e,List.map_cons,List.sum_cons,List.length_cons]
  omega
theorem wr_node (ts:List Tr):wr (.node ts)=(("(":Str)++Str.join " " (ts.map wr))++")":=by rw [wr,wrA_eq]
theorem wr_len (ts:List Tr):(wr (.node ts)).length=(Str.join " " (ts.map wr)).length+2:=by
 rw [wr_node,len_app,len_app]
 show 1+_+1=_
 omega
theorem TupA.get {H:Hp}:∀ {v:List V} {t:List Tr} {i:Nat} {x:V},TupA H v t→v[i]? = some x→∃ y,t[i]? = some y∧Tup H x y
 | _,_,_,_,.nil,h=>by simp at h
 | _,_,0,_,.cons a _,h=>by simp at h; subst h; exact⟨_,rfl,a⟩
 | _,_,i+1,_,.cons _ r,h=>by simpa using TupA.get (i:=i) r (by simpa using h)
section
variable {P:Program} {w:World} {K:PySem.W.Frag} {mg:Str→Option Value} {base:Heap}
abbrev s_written:Stmt:=top 21
theorem zlt:FnScope ["thing"] ["thing"] (defScope s_written):=⟨rfl,rfl,rfl,by decide +kernel,rfl,by decide +kernel,by decide +kernel⟩
theorem zlu:LN .globalImplicit s_written "isinstance":=by decide +kernel
theorem zlv:LN .globalImplicit s_written "str":=by decide +kernel
theorem zlw:LN .local s_written "thing":=by decide +kernel
abbrev QS10:Scope:={kind:=PySem.ScopeKind.function,names:=[ (PySem.Str.ofString ".0",PySem.NameKind.local),(PySem.Str.ofString "part",PySem.NameKind.local),(PySem.Str.ofString "written",PySem.NameKind.globalImplicit)],isGenerator:=false,isCoroutine:=false,more:=[]:PySem.Scope}
theorem zlx:CompSc 1 ["part","thing"] ["thing"] (defScope s_written) QS10:=⟨rfl,by decide +kernel,by decide +kernel,by decide +kernel,by decide +kernel,rfl,by decide +kernel⟩
theorem zly:LC .local QS10 "part":=by decide +kernel
theorem zlz:LC .globalImplicit QS10 "written":=by decide +kernel
def spWr (n:Nat):Sp:=fun vs H Q _=>∃ (v:V) (t:Tr),vs=[v]∧Tup H v t∧dep t≤n∧(wr t).length≤1000000∧∀ H',Same H H'→Q (.str (wr t)) H'
def spWr':Nat→Sp
 | 0=>fun _ _ _ _=>False
 | n+1=>spWr n
theorem spWr'_of {m:Nat} {vs:List V} {H:Hp} {Q:VK} {E:XK} (h:spWr m vs H Q E):spWr' (m+1) vs H Q E:=h
theorem ok_wr_of (F:FunAt K mg "written" s_written ["thing"]) (Z:Bl mg) (n:Nat) (D_written:Def P w K mg base "written" (n+1) ["thing"] (spWr' n)):Def P w K mg base "written" (n+2) ["thing"] (spWr n):=by
 have SC:=zlt
 refine F.mk' (k:=n+1) zlt (fun vs H Q E h=>?_) (fun f cdv A outer s H vs Q E hr h=>?_)
 ·obtain⟨v,t,rfl,_⟩:=h
  rfl
 ·obtain⟨v,t,rfl,ht,hn,hw,q⟩:=h
  refine'⟨_,?derivation,?_⟩
  case derivation=>refine' pss_cons ?Aa ?Ba;(case Aa=>refine' ps_if ?Ca ?Da pss_nil;(case Ca=>refine' pt_val ?Ea ?Fa;(case Ea=>refine' pe_callB (hn:=zd8) (hdb:=zd7) (call_isiT (T:="str")) zlu Z.n_isinstance bt_isinstance ?Ga rfl rfl;case Ga=>refine' pa_cons (pq 0 (visL zlw) zep zeq) ?Ha ?Ia;(case Ha=>refine' pa_cons ?Ja pa_nil ?Ka;(case Ja=>refine' pe_bltn (v:=V.ty "str") (hn:=zeo) (hd:=zen) zlv Z.n_str bt_str rfl);case Ka=>rfl);case Ia=>rfl);case Fa=>intro _; rfl);case Da=>refine' pss_one ?La;case La=>refine' ps_ret (pq 0 (visL zlw) zep zeq));case Ba=>refine' pss_one ?Ma;case Ma=>refine' ps_ret ?Na;case Na=>refine' pe_op op_add_str ?Oa ?Pa;(case Oa=>refine' pe_op op_add_str ?Qa ?Ra;(case Qa=>exact pe_str);case Ra=>refine' pe_bm PySem.F.plainAttrs_str PySem.F.slot_str_join PySem.F.type_str_join mt_join ?Sa ?Ta rfl rfl rfl rfl rfl;(case Sa=>exact pe_str);case Ta=>refine' pa_cons ?Ua pa_nil ?Va;(case Ua=>refine' pe_comp noxe rfl zlx.at ?Wa ?Xa ?Ya ?Za;(case Wa=>refine' pi_seq (pq 0 (visL zlw) zep zeq));(case Xa=>intro _ _ _ _ _;refine' pg_name (i:=0) zlx.nd rfl (locO zly) (.inr (lookup_relabel_local zly)));(case Ya=>intro _ _ _ _ _;refine' pe_def (hdb:=zls) D_written (hr.mono (by omega)) (glO zlz) ?Ab rfl rfl;case Ab=>refine' pa_cons (pq 0 (visO zly) zjw zjx) pa_nil ?Bb;case Bb=>rfl);case Za=>intro _; rfl);case Va=>rfl);case Pa=>exact pe_str
  cases ht with
  | leaf x=>exact⟨_,rfl,_,_,_,rfl,.str _,kit_str1 K,true,rfl,ifT rfl ⟨_,rfl,by have:=q H (Same.refl _); rwa [wr] at this⟩⟩
  | node h r=>
   rename_i a xs ts
   have hd:dep (.node ts)=1+depA ts:=rfl
   rw [hd] at hn
   obtain⟨m,rfl⟩:∃ m,n=m+1:=⟨n-1,by omega⟩
   rw [wr_len] at hw
   have js:=join_sum (ts.map wr)
   rw [List.length_map] at js
   have rl:=r.length
   refine⟨_,rfl,_,_,false,rfl,.tup h,rfl,false,rfl,iteF ?_⟩
   refine⟨rfl,?_⟩
   refine(show LT H a xs from .inr h).over rfl fun J O=>?_
   intro cl C1 ex s0 H0
   refine O.comp (fun i ys H4=>ys=((ts.map wr).take i).map V.str∧Same H H4) ⟨rfl,Same.refl _⟩ (Nat.le_trans (show xs.length≤1000001 by omega) (by decide)) (fun i ys H4 _ ⟨_,z⟩ o e=>z _ _ e) ?_ ?_
   ·rintro i y ys H4 hi hy ⟨rfl,s4⟩
    obtain⟨t,ht,tt⟩:=r.get hi
    have dt:=depA_mem (List.mem_of_getElem? ht)
    have lt:=join_mem_le " " (ts.map wr) (wr t) (List.mem_map.mpr ⟨t,List.mem_of_getElem? ht,rfl⟩)
    refine⟨_,rfl,?_⟩
    unfold tNil
    refine spWr'_of ⟨y,t,rfl,tup_keep (Same.tups s4) tt,by omega,by omega,fun H5 s5=>⟨?_,s4.trans s5⟩⟩
    rw [List.take_succ,List.getElem?_map,ht]
    exact(List.map_append (l₂:=[wr t])).symm
   ·rintro ys H4 hy ⟨rfl,s4⟩ D hD
    have el:(ts.map wr).take xs.length=ts.map wr:=List.take_of_length_le (by rw [List.length_map]; omega)
    rw [el]
    refine⟨_,D,ts.map wr,rfl,rfl,SqL.of upd_same,PyProof.Rows.joinOk_of_weight (by rw [List.length_map]; omega) (by decide),?_⟩
    have l1:("(":Str).length=1:=rfl
    have l2:(")":Str).length=1:=rfl
    refine⟨_,_,rfl,rfl,Nat.le_trans (show ("(":Str).length+_≤1000002 by omega) (by decide),?_⟩
    refine⟨_,_,rfl,rfl,Nat.le_trans (show _+(")":Str).length≤1000004 by rw [len_app]; omega) (by decide),?_⟩
    rw [← wr_node]
    exact q _ (s4.trans (same_new hD _))
theorem ok_wr0 (F:FunAt K mg "written" s_written ["thing"]):Def P w K mg base "written" 1 ["thing"] (spWr' 0):=
 F.mk' (k:=0) zlt (fun vs H Q E h=>False.elim h) fun f cdv A outer s H vs Q E hr h=>False.elim h
theorem ok_wr (F:FunAt K mg "written" s_written ["thing"]) (Z:Bl mg):∀ n,Def P w K mg base "written" (n+2) ["thing"] (spWr n)
 | 0=>ok_wr_of F Z 0 (ok_wr0 F)
 | n+1=>ok_wr_of F Z (n+1) (ok_wr F Z n)
end
end Few
namespace L2
open PySem PySem.Spec PyProof.Rows
theorem flat_free (c:Nat) (z:List Nat):∀ {l:List Nat},c∉l→(l.flatMap fun d=>if d=c then z else [d])=l
 | [],_=>rfl
 | d::r,h=>by
  rw [List.flatMap_cons,if_neg (fun e=>h (by rw [e]; exact List.mem_cons_self)),flat_free c z (fun e=>h (List.mem_cons_of_mem _ e))]
  rfl
theorem join_flat (c:Nat) (z:Str):∀ {ps:List Str},(∀ p∈ps,c∉p.cps.toList)→(Str.join z ps).cps.toList=(Str.join ⟨#[c]⟩ ps).cps.toList.flatMap fun d=>if d=c then z.cps.toList else [d]
 | [],_=>rfl
 | [x],h=>(flat_free c _ (h x List.mem_cons_self)).symm
 | x::y::r,h=>by
  rw [join_two c x y r,List.flatMap_append,flat_free c _ (h x List.mem_cons_self),List.flatMap_cons,if_pos rfl,← join_flat c z (fun p hp=>h p (List.mem_cons_of_mem _ hp))]
  show (x++z++Str.join z (y::r)).cps.toList=_
  rw [cps_app,cps_app,List.append_assoc]
theorem rep_flat (x z:Str) (c:Nat):(Txt.replace x ⟨#[c]⟩ z).cps.toList=x.cps.toList.flatMap fun d=>if d=c then z.cps.toList else [d]:=by
 rw [StrLaws.replace_one,join_flat c z (StrLaws.split_free x c),StrLaws.join_split]
end L2
namespace Few
open PySem L2
def gB (d:Nat):List Nat:=if d=40 then [32,40,32] else if d=41 then [32,41,32] else [d]
theorem rep_both (x:Str):(Txt.replace (Txt.replace x "(" " ( ") ")" " ) ").cps.toList=x.cps.toList.flatMap gB:=by
 rw [show (")":Str)=⟨#[41]⟩ from rfl,rep_flat,show ("(":Str)=⟨#[40]⟩ from rfl,rep_flat,List.flatMap_assoc]
 congr 1
 funext d
 unfold gB
 by_cases h:d=40
 ·rw [if_pos h,if_pos h]; rfl
 ·rw [if_neg h,if_neg h,List.flatMap_cons,List.flatMap_nil,List.append_nil]
  by_cases h2:d=41
  ·rw [if_pos h2,if_pos h2]; rfl
  ·rw [if_neg h2,if_neg h2]
mutual
def wd:Tr→List Str
 | .leaf x=>[x]
 | .node ts=>Str.empty::("(":Str)::(wdA ts++[(")":Str),Str.empty])
def wdA:List Tr→List Str
 | []=>[]
 | t::ts=>wd t++wdA ts
end
mutual
def OkT:Tr→Prop
 | .leaf x=>x≠Str.empty∧∀ c∈x.cps.toList,c≠32∧c≠40∧c≠41
 | .node ts=>ts≠[]∧OkA ts
def OkA:List Tr→Prop
 | []=>True
 | t::ts=>OkT t∧OkA ts
end
theorem join_app:∀ {A B:List Str},A≠[]→B≠[]→(Str.join " " (A++B)).cps.toList=(Str.join " " A).cps.toList++32::(Str.join " " B).cps.toList
 | [],_,h,_=>absurd rfl h
 | [x],b::B,_,_=>join_two 32 x b B
 | x::y::r,B,_,hB=>by
  have e:=join_two 32 x y (r++B)
  have e2:=join_two 32 x y r
  have ih:=join_app (A:=y::r) (B:=B) (by simp) hB
  show (Str.join ⟨#[32]⟩ (x::y::(r++B))).cps.toList=_
  rw [e]
  show x.cps.toList++32::(Str.join " " (y::r++B)).cps.toList=(Str.join ⟨#[32]⟩ (x::y::r)).cps.toList++_
  rw [ih,e2,List.append_assoc]
  rfl
 | [x],[],_,h=>absurd rfl h
theorem leaf_flat:∀ {l:List Nat},(∀ c∈l,c≠32∧c≠40∧c≠41)→l.flatMap gB=l
 | [],_=>rfl
 | d::r,h=>by
  obtain⟨_,h1,h2⟩:=h d List.mem_cons_self
  rw [List.flatMap_cons,leaf_flat (fun c hc=>h c (List.mem_cons_of_mem _ hc))]
  unfold gB
  rw [if_neg h1,if_neg h2]
  rfl
theorem wd_ne:∀ t:Tr,wd t≠[]
 | .leaf x=>by rw [wd]; simp
 | .node ts=>by rw [wd]; simp
mutual
theorem wd_join:∀ t:Tr,OkT t→(wr t).cps.toList.flatMap gB=(Str.join " " (wd t)).cps.toList
 | .leaf x,h=>by
  rw [OkT] at h
  rw [wr,wd]
  exact leaf_flat h.2
 | .node ts,h=>by
  rw [OkT] at h
  have ih:=wdA_join ts h.1 h.2
  rw [wr,wd,cps_app,cps_app,List.flatMap_append,List.flatMap_append,ih.1]
  have e1:("(":Str).cps.toList.flatMap gB=[32,40,32]:=rfl
  have e2:(")":Str).cps.toList.flatMap gB=[32,41,32]:=rfl
  rw [e1,e2]
  have s1:(Str.join " " (Str.empty::("(":Str)::(wdA ts++[(")":Str),Str.empty]))).cps.toList=32::(Str.join " " (("(":Str)::(wdA ts++[(")":Str),Str.empty]))).cps.toList:=join_two 32 Str.empty ("(":Str) _
  have s2:(Str.join " " ([("(":Str)]++(wdA ts++[(")":Str),Str.empty]))).cps.toList=_:=join_app (A:=[("(":Str)]) (B:=wdA ts++[(")":Str),Str.empty]) (by simp) (by simp)
  have s3:=join_app (A:=wdA ts) (B:=[(")":Str),Str.empty]) ih.2 (by simp)
  rw [s1]
  show _=32::(Str.join " " ([("(":Str)]++(wdA ts++[(")":Str),Str.empty]))).cps.toList
  rw [s2,s3]
  have s4:(Str.join " " [("(":Str)]).cps.toList=[40]:=rfl
  have s5:(Str.join " " [(")":Str),Str.empty]).cps.toList=[41,32]:=rfl
  rw [s4,s5]
  simp
theorem wdA_join:∀ ts:List Tr,ts≠[]→OkA ts→(Str.join " " (wrA ts)).cps.toList.flatMap gB=(Str.join " " (wdA ts)).cps.toList∧wdA ts≠[]
 | [],h,_=>absurd rfl h
 | [t],_,h=>by
  rw [OkA] at h
  rw [wrA,wrA,wdA,wdA,List.append_nil]
  exact⟨wd_join t h.1,wd_ne t⟩
 | t::u::r,_,h=>by
  rw [OkA] at h
  have ih:=wdA_join (u::r) (by simp) h.2
  have i1:=wd_join t h.1
  rw [wdA]
  refine⟨?_,by simp [wd_ne t]⟩
  rw [join_app (wd_ne t) ih.2,← ih.1,← i1]
  rw [wrA]
  have e:(Str.join " " (wr t::wrA (u::r))).cps.toList=(wr t).cps.toList++32::(Str.join " " (wrA (u::r))).cps.toList:=by
   rw [wrA]; exact join_two 32 _ _ _
  rw [e,List.flatMap_append,List.flatMap_cons]
  rfl
end
mutual
theorem wd_free:∀ t:Tr,OkT t→∀ p∈wd t,32∉p.cps.toList
 | .leaf x,h,p,hp=>by
  rw [OkT] at h
  rw [wd] at hp
  rw [List.mem_singleton.mp hp]
  exact fun z=>(h.2 32 z).1 rfl
 | .node ts,h,p,hp=>by
  rw [OkT] at h
  rw [wd] at hp
  rcases List.mem_cons.mp hp with rfl | hp
  ·exact fun z=>nomatch z
  ·rcases List.mem_cons.mp hp with rfl | hp
   ·decide
   ·rcases List.mem_append.mp hp with hp | hp
    ·exact wdA_free ts h.2 p hp
    ·rcases List.mem_cons.mp hp with rfl | hp
     ·decide
     ·rw [List.mem_singleton.mp hp]
      exact fun z=>nomatch z
theorem wdA_free:∀ ts:List Tr,OkA ts→∀ p∈wdA ts,32∉p.cps.toList
 | [],_,p,hp=>by rw [wdA] at hp; nomatch hp
 | t::ts,h,p,hp=>by
  rw [OkA] at h
  rw [wdA] at hp
  rcases List.mem_append.mp hp with hp | hp
  ·exact wd_free t h.1 p hp
  ·exact wdA_free ts h.2 p hp
end
theorem words_of {t:Tr} (h:OkT t):Txt.split (Txt.replace (Txt.replace (wr t) "(" " ( ") ")" " ) ") " "=wd t:=by
 have e:Txt.replace (Txt.replace (wr t) "(" " ( ") ")" " ) "=Str.join " " (wd t):=str_eq ((rep_both _).trans (wd_join t h))
 rw [e]
 exact split_join 32 (wd_ne t) (wd_free t h)
def stp (st:List (List Tr)) (w:Str):Option (List (List Tr)):=
 if w="(" then some ([]::st) else if w=")" then (match st with | r::q::rest=>some ((q++[.node r])::rest) | _=>none) else if w=Str.empty then some st else (match st with | r::rest=>some ((r++[.leaf w])::rest) | []=>none)
def run:List Str→List (List Tr)→Option (List (List Tr))
 | [],st=>some st
 | w::ws,st=>(stp st w).bind (run ws)
theorem run_app:∀ (a b:List Str) (st:List (List Tr)),run (a++b) st=(run a st).bind (run b)
 | [],_,_=>rfl
 | w::a,b,st=>by
  show (stp st w).bind (run (a++b))=((stp st w).bind (run a)).bind (run b)
  cases stp st w with
  | none=>rfl
  | some s=>exact run_app a b s
theorem ne_lb:¬ ((Str.empty:Str)="("):=by decide +kernel
theorem ne_rb:¬ ((Str.empty:Str)=")"):=by decide +kernel
theorem ne_lr:¬ ((")":Str)="("):=by decide +kernel
theorem leaf_ne {x:Str} (h:∀ c∈x.cps.toList,c≠32∧c≠40∧c≠41):x≠"("∧x≠")":=
 ⟨fun e=>(h 40 (by rw [e]; decide)).2.1 rfl,fun e=>(h 41 (by rw [e]; decide)).2.2 rfl⟩
mutual
theorem run_wd:∀ (t:Tr),OkT t→∀ (r:List Tr) (rs:List (List Tr)),run (wd t) (r::rs)=some ((r++[t])::rs)
 | .leaf x,h,r,rs=>by
  rw [OkT] at h
  obtain⟨h1,h2⟩:=leaf_ne h.2
  rw [wd]
  show (stp (r::rs) x).bind (run [])=_
  unfold stp
  rw [if_neg h1,if_neg h2,if_neg h.1]
  rfl
 | .node ts,h,r,rs=>by
  rw [OkT] at h
  have ih:=run_wdA ts h.2 [] (r::rs)
  rw [wd]
  show (stp (r::rs) Str.empty).bind (run _)=_
  have e1:stp (r::rs) Str.empty=some (r::rs):=by unfold stp; rw [if_neg ne_lb,if_neg ne_rb,if_pos rfl]
  rw [e1]
  show (stp (r::rs) "(").bind (run _)=_
  have e2:stp (r::rs) "("=some ([]::r::rs):=by unfold stp; rw [if_pos rfl]
  rw [e2]
  show run (wdA ts++[(")":Str),Str.empty]) ([]::r::rs)=_
  rw [run_app,ih]
  show (stp (([]++ts)::r::rs) ")").bind (run [Str.empty])=_
  have e3:stp (([]++ts)::r::rs) ")"=some ((r++[.node ([]++ts)])::rs):=by unfold stp; rw [if_neg ne_lr,if_pos rfl]
  rw [e3]
  show (stp _ Str.empty).bind (run [])=_
  have e4:stp ((r++[.node ([]++ts)])::rs) Str.empty=some ((r++[.node ([]++ts)])::rs):=by unfold stp; rw [if_neg ne_lb,if_neg ne_rb,if_pos rfl]
  rw [e4]
  rfl
theorem run_wdA:∀ (ts:List Tr),OkA ts→∀ (r:List Tr) (rs:List (List Tr)),run (wdA ts) (r::rs)=some ((r++ts)::rs)
 | [],_,r,rs=>by rw [wdA,List.append_nil]; rfl
 | t::ts,h,r,rs=>by
  rw [OkA] at h
  rw [wdA,run_app,run_wd t h.1 r rs]
  show run (wdA ts) ((r++[t])::rs)=_
  rw [run_wdA ts h.2,List.append_assoc]
  rfl
end
theorem run_take:∀ {ws:List Str} {st fin:List (List Tr)},run ws st=some fin→∀ {i:Nat} {w:Str},ws[i]? = some w→∃ s s',run (ws.take i) st=some s∧stp s w=some s'∧run (ws.take (i+1)) st=some s'
 | [],_,_,_,_,_,h=>by simp at h
 | w::ws,st,fin,hr,0,v,h=>by
  simp at h
  subst h
  have hr':(stp st w).bind (run ws)=some fin:=hr
  cases e:stp st w with
  | none=>rw [e] at hr'; nomatch hr'
  | some s=>exact⟨st,s,rfl,e,by show (stp st w).bind (run (ws.take 0))=_; rw [e]; rfl⟩
 | w::ws,st,fin,hr,i+1,v,h=>by
  have hr':(stp st w).bind (run ws)=some fin:=hr
  cases e:stp st w with
  | none=>rw [e] at hr'; nomatch hr'
  | some s=>
   rw [e] at hr'
   obtain⟨a,b,h1,h2,h3⟩:=run_take (ws:=ws) (st:=s) hr' (i:=i) (w:=v) (by simpa using h)
   exact⟨a,b,by show (stp st w).bind (run (ws.take i))=_; rw [e]; exact h1,h2,by show (stp st w).bind (run (ws.take (i+1)))=_; rw [e]; exact h3⟩
mutual
inductive MixR (R:Addr→Prop) (H:Hp):V→Tr→Prop where
 | leaf (x:Str):MixR R H (.str x) (.leaf x)
 | node {a:Addr} {xs:List V} {ts:List Tr}:R a→H a=some (.lst xs)→MixRA R H xs ts→MixR R H (.ref a) (.node ts)
inductive MixRA (R:Addr→Prop) (H:Hp):List V→List Tr→Prop where
 | nil:MixRA R H [] []
 | cons {x:V} {xs:List V} {t:Tr} {ts:List Tr}:MixR R H x t→MixRA R H xs ts→MixRA R H (x::xs) (t::ts)
end
mutual
theorem mixR_mono {R R':Addr→Prop} {H H':Hp} (k:∀ b o,R b→H b=some o→R' b∧H' b=some o):∀ {v:V} {t:Tr},MixR R H v t→MixR R' H' v t
 | _,_,.leaf x=>.leaf x
 | _,_,.node r h z=>.node (k _ _ r h).1 (k _ _ r h).2 (mixRA_mono k z)
theorem mixRA_mono {R R':Addr→Prop} {H H':Hp} (k:∀ b o,R b→H b=some o→R' b∧H' b=some o):∀ {v:List V} {t:List Tr},MixRA R H v t→MixRA R' H' v t
 | _,_,.nil=>.nil
 | _,_,.cons a r=>.cons (mixR_mono k a) (mixRA_mono k r)
end
mutual
theorem mixR_mix {R:Addr→Prop} {H:Hp}:∀ {v:V} {t:Tr},MixR R H v t→Mix H v t
 | _,_,.leaf x=>.leaf x
 | _,_,.node _ h z=>.node (.inl h) (mixRA_mix z)
theorem mixRA_mix {R:Addr→Prop} {H:Hp}:∀ {v:List V} {t:List Tr},MixRA R H v t→MixA H v t
 | _,_,.nil=>.nil
 | _,_,.cons a r=>.cons (mixR_mix a) (mixRA_mix r)
end
theorem MixRA.length {R:Addr→Prop} {H:Hp}:∀ {v:List V} {t:List Tr},MixRA R H v t→v.length=t.length
 | _,_,.nil=>rfl
 | _,_,.cons _ r=>by rw [List.length_cons,List.length_cons,MixRA.length r]
theorem MixRA.snoc {R:Addr→Prop} {H:Hp} {x:V} {y:Tr}:∀ {v:List V} {t:List Tr},MixRA R H v t→MixR R H x y→MixRA R H (v++[x]) (t++[y])
 | _,_,.nil,h=>.cons h .nil
 | _,_,.cons a r,h=>.cons a (MixRA.snoc r h)
def RowAt (D:Addr) (as:List Addr) (H:Hp) (a:Addr) (ts:List Tr):Prop:=∃ xs,H a=some (.lst xs)∧MixRA (fun b=>b≠D∧b∉as) H xs ts
structure RowsOk (H0 H:Hp) (D:Addr) (as:List Addr) (st:List (List Tr)):Prop where
 same:Same H0 H
 fd:H0 D=none
 fa:∀ a∈as,H0 a=none
 nd:(D::as).Nodup
 d:H D=some (.lst (as.reverse.map V.ref))
 rows:Paired (RowAt D as H) as st
theorem Paired.mem {α β:Type} {F G:α→β→Prop}:∀ {a:List α} {b:List β},Paired F a b→(∀ x y,x∈a→F x y→G x y)→Paired G a b
 | _,_,.nil,_=>.nil
 | _,_,.cons h t,k=>.cons (k _ _ List.mem_cons_self h) (Paired.mem t fun x y hx=>k x y (List.mem_cons_of_mem _ hx))
theorem Paired.left {α β:Type} {F:α→β→Prop}:∀ {a:List α} {b:List β} {x:α},Paired F a b→x∈a→∃ y,F x y
 | _,_,_,.cons h t,hx=>by
  rcases List.mem_cons.mp hx with rfl | hx
  ·exact⟨_,h⟩
  ·exact Paired.left t hx
theorem RowAt.mono {D:Addr} {as as':List Addr} {H H':Hp} {a:Addr} {ts:List Tr} (h:RowAt D as H a ts) (ha:∀ o,H a=some o→H' a=some o) (k:∀ b o,b≠D∧b∉as→H b=some o→(b≠D∧b∉as')∧H' b=some o):RowAt D as' H' a ts:=
 let ⟨xs,e,m⟩:=h; ⟨xs,ha _ e,mixRA_mono k m⟩
theorem RowsOk.push {H0 H:Hp} {D p:Addr} {as:List Addr} {st:List (List Tr)} (h:RowsOk H0 H D as st) (hp:H p=none):RowsOk H0 (upd (upd H p (.lst [])) D (.lst (as.reverse.map V.ref++[.ref p]))) D (p::as) ([]::st):=by
 have nd:=List.nodup_cons.mp h.nd
 have pD:p≠D:=fun e=>by rw [e,h.d] at hp; cases hp
 have al:∀ a∈as,∃ o,H a=some o:=fun a ha=>by
  obtain⟨ts,xs,e,_⟩:=Paired.left h.rows ha
  exact⟨_,e⟩
 have pa:p∉as:=fun e=>by obtain⟨o,e2⟩:=al p e; rw [hp] at e2; cases e2
 refine⟨fun c o e=>by rw [upd_ne (ne_of_none e h.fd)]; exact same_new hp _ _ _ (h.same _ _ e),h.fd,fun a ha=>?_,?_,?_,?_⟩
 ·rcases List.mem_cons.mp ha with rfl | ha
  ·exact h.same.free hp
  ·exact h.fa a ha
 ·refine List.nodup_cons.mpr ⟨fun e=>?_,List.nodup_cons.mpr ⟨pa,nd.2⟩⟩
  rcases List.mem_cons.mp e with e | e
  ·exact pD e.symm
  ·exact nd.1 e
 ·rw [upd_same,List.reverse_cons,List.map_append]; rfl
 ·refine .cons ⟨[],by rw [upd_ne pD]; exact upd_same,.nil⟩ (Paired.mem h.rows fun a ts ha r=>r.mono (fun o e=>?_) fun b o hb e=>⟨⟨hb.1,fun z=>?_⟩,?_⟩)
  ·rw [upd_ne (show a≠D from fun z=>nd.1 (z▸ha)),upd_ne (ne_of_none e hp)]; exact e
  ·rcases List.mem_cons.mp z with z | z
   ·rw [z,hp] at e; cases e
   ·exact hb.2 z
  ·rw [upd_ne hb.1,upd_ne (ne_of_none e hp)]; exact e
theorem RowsOk.add {H0 H:Hp} {D a:Addr} {as:List Addr} {r:List Tr} {st:List (List Tr)} {xs:List V} {w:Str} (h:RowsOk H0 H D (a::as) (r::st)) (hx:H a=some (.lst xs)):RowsOk H0 (upd H a (.lst (xs++[.str w]))) D (a::as) ((r++[.leaf w])::st):=by
 have nd:=List.nodup_cons.mp h.nd
 have nd2:=List.nodup_cons.mp nd.2
 have aD:D≠a:=fun e=>nd.1 (by rw [e]; exact List.mem_cons_self)
 have hrow:=h.rows
 cases hrow with
 | cons f t=>
  obtain⟨ys,e,m⟩:=f
  rw [hx] at e; cases e
  have kk:∀ b o,b≠D∧b∉a::as→H b=some o→(b≠D∧b∉a::as)∧(upd H a (.lst (xs++[.str w]))) b=some o:=fun b o hb e=>⟨hb,by rw [upd_ne (fun z=>hb.2 (by rw [z]; exact List.mem_cons_self))]; exact e⟩
  refine⟨fun c o e=>by rw [upd_ne (ne_of_none e (h.fa a List.mem_cons_self))]; exact h.same _ _ e,h.fd,h.fa,h.nd,by rw [upd_ne aD]; exact h.d,.cons ⟨_,upd_same,(mixRA_mono kk m).snoc (.leaf w)⟩ (Paired.mem t fun b ts hb rr=>rr.mono (fun o e=>?_) kk)⟩
  rw [upd_ne (show b≠a from fun z=>nd2.1 (z▸hb))]; exact e
theorem RowsOk.pop {H0 H:Hp} {D a b:Addr} {as:List Addr} {r q:List Tr} {st:List (List Tr)} {ys:List V} (h:RowsOk H0 H D (a::b::as) (r::q::st)) (hy:H b=some (.lst ys)):RowsOk H0 (upd (upd H D (.lst ((b::as).reverse.map V.ref))) b (.lst (ys++[.ref a]))) D (b::as) ((q++[.node r])::st):=by
 have nd:=List.nodup_cons.mp h.nd
 have nd2:=List.nodup_cons.mp nd.2
 have nd3:=List.nodup_cons.mp nd2.2
 have aD:a≠D:=fun e=>nd.1 (by rw [← e]; exact List.mem_cons_self)
 have bD:D≠b:=fun e=>nd.1 (by rw [e]; exact List.mem_cons_of_mem _ List.mem_cons_self)
 have ab:a≠b:=fun e=>nd2.1 (by rw [e]; exact List.mem_cons_self)
 have hrow:=h.rows
 cases hrow with
 | cons f t=>
 cases t with
 | cons g t=>
  obtain⟨xs,ex,mx⟩:=f
  obtain⟨zs,ez,mz⟩:=g
  rw [hy] at ez; cases ez
  have kk:∀ c o,c≠D∧c∉a::b::as→H c=some o→(c≠D∧c∉b::as)∧(upd (upd H D (.lst ((b::as).reverse.map V.ref))) b (.lst (ys++[.ref a]))) c=some o:=fun c o hc e=>⟨⟨hc.1,fun z=>hc.2 (List.mem_cons_of_mem _ z)⟩,by rw [upd_ne (fun z=>hc.2 (by rw [z]; exact List.mem_cons_of_mem _ List.mem_cons_self)),upd_ne hc.1]; exact e⟩
  refine⟨fun c o e=>by rw [upd_ne (ne_of_none e (h.fa b (List.mem_cons_of_mem _ List.mem_cons_self))),upd_ne (ne_of_none e h.fd)]; exact h.same _ _ e,h.fd,fun c hc=>h.fa c (List.mem_cons_of_mem _ hc),List.nodup_cons.mpr ⟨fun z=>nd.1 (List.mem_cons_of_mem _ z),nd2.2⟩,by rw [upd_ne bD]; exact upd_same,.cons ⟨_,upd_same,(mixRA_mono kk mz).snoc (.node ⟨aD,nd2.1⟩ (by rw [upd_ne ab,upd_ne aD]; exact ex) (mixRA_mono kk mx))⟩ (Paired.mem t fun c ts hc rr=>rr.mono (fun o e=>?_) kk)⟩
  rw [upd_ne (show c≠b from fun z=>nd3.1 (z▸hc)),upd_ne (show c≠D from fun z=>nd.1 (z▸List.mem_cons_of_mem _ (List.mem_cons_of_mem _ hc)))]; exact e
theorem zl0:LD "DEEPEST":=by decide +kernel
theorem zl1:LD "SignTable":=by decide +kernel
theorem zl2:LD "looked_over":=by decide +kernel
theorem zl3:LD "saying":=by decide +kernel
theorem zl4:LS "saying":=by decide +kernel
theorem same_make {H:Hp} {x dx CB:Addr} (hx:H x=none) (hd:H dx=none) (n:dx≠x):Same H (upd (upd H dx (.own x)) x (.ins CB dx [])):=
 (same_new hd _).trans (same_new (by rw [upd_ne (Ne.symm n)]; exact hx) _)
theorem same_made {H H1 H2:Hp} {x:Addr} (hx:H x=none) (s:Same H H1) (t:SameX x H1 H2):Same H H2:=fun b o e=>t b o (ne_of_none e hx) (s b o e)
section
variable {P:Program} {w:World} {K:PySem.W.Frag} {mg:Str→Option Value} {base:Heap}
abbrev s_looked_over:Stmt:=top 12
theorem zl5:FnScope ["signs","thing"] ["signs","thing"] (defScope s_looked_over):=⟨rfl,rfl,rfl,by decide +kernel,rfl,by decide +kernel,by decide +kernel⟩
theorem zl6:LN .globalImplicit s_looked_over "DEEPEST":=by decide +kernel
theorem zl7:LN .globalImplicit s_looked_over "SignTable":=by decide +kernel
theorem zl8:LN .globalImplicit s_looked_over "checked_saying":=by decide +kernel
theorem zl9:LN .local s_looked_over "signs":=by decide +kernel
theorem zma:LN .local s_looked_over "thing":=by decide +kernel
def spLook (C:Addr):Sp:=fun vs H Q _=>∃ (g:Addr) (v:V) (ks:List Str) (ts:List TieR) (fs:List FunR) (t:Tr),vs=[.ref g,v]∧SignsAt C H g ks ts fs∧BookOk ks ts fs∧Mix H v t∧IsSy ks ts fs (fun _=>none) t∧dep t≤12∧∀ u H',Tup H' u t→Same H H'→Q u H'
theorem ok_look {C CT fT:Addr} {fdT:FuncData} (F:FunAt K mg "looked_over" s_looked_over ["signs","thing"]) (Z:Bl mg) (GD:∃ u,mg "DEEPEST"=some u∧RelV (.int 64) u)
  (M_SignTable:Mk K CT fT) (G_SignTable:FnOk P w K mg base CX0 2 fT fdT ["self","signs"] (spTabInit C CT)) (m_SignTable:mg "SignTable"=some (.ref CT)) (b_SignTable:Binds K fdT ["self","signs"] [])
  (D_checked_saying:Def P w K mg base "checked_saying" (2*12+5) ["table","thing","scope","room"] (spSay CT 12)):Def P w K mg base "looked_over" 30 ["signs","thing"] (spLook C):=by
 have SC:=zl5
 obtain⟨_,g_DEEPEST,r_DEEPEST⟩:=GD
 refine F.mk' (k:=29) zl5 (fun vs H Q E h=>?_) (fun f cdv A outer s H vs Q E hr h=>?_)
 ·obtain⟨g,v,ks,ts,fs,t,rfl,_⟩:=h
  rfl
 ·obtain⟨g,v,ks,ts,fs,t,rfl,hS,ok,hm,hs,hd,q⟩:=h
  refine'⟨_,?derivation,?_⟩
  case derivation=>refine' pss_one ?Aa;case Aa=>refine' ps_ret ?Ba;case Ba=>refine' pe_def (hdb:=zjn) D_checked_saying (hr.mono (by decide)) zl8 ?Ca rfl rfl;case Ca=>refine' pa_cons ?Da ?Ea ?Fa;(case Da=>refine' pe_make (hdb:=zl1) M_SignTable G_SignTable (hr.mono (by decide)) zl7 m_SignTable b_SignTable .nil pass0 ?Ga rfl rfl;case Ga=>refine' pa_cons (pq 0 (visL zl9) zlc zld) pa_nil ?Ha;case Ha=>rfl);(case Ea=>refine' pa_cons (pq 1 (visL zma) zep zeq) ?Ia ?Ja;(case Ia=>refine' pa_cons ?Ka ?La ?Ma;(case Ka=>exact pe_dnewK);(case La=>refine' pa_cons ?Na pa_nil ?Oa;(case Na=>refine' pe_glob (hd:=zl0) zl6 g_DEEPEST r_DEEPEST);case Oa=>rfl);case Ma=>rfl);case Ja=>rfl);case Fa=>rfl
  refine⟨_,rfl,fun x dx hx hdx nd=>?_⟩
  have s1:=same_make (CB:=CT) hx hdx nd
  refine⟨x,dx,g,ks,ts,fs,rfl,upd_same,hS.same s1,ok,fun H2 hT t2=>⟨rfl,?_⟩⟩
  have s2:=same_made hx s1 t2
  refine⟨_,rfl,fun sc hsc=>?_⟩
  have s3:=same_new hsc (.dK [])
  refine⟨x,sc,v,64,ks,ts,fs,fun _=>none,0,t,rfl,hT.same s3,ok,⟨[],upd_same,Nat.le_refl _,fun _=>rfl⟩,by decide,mix_same (s2.trans s3) hm,hs,hd,by omega,fun u H4 tu s4=>q u H4 tu ((s2.trans s3).trans s4)⟩
abbrev s_write_saying:Stmt:=top 20
theorem zmb:FnScope ["signs","saying"] ["signs","saying"] (defScope s_write_saying):=⟨rfl,rfl,rfl,by decide +kernel,rfl,by decide +kernel,by decide +kernel⟩
theorem zmc:LN .globalImplicit s_write_saying "looked_over":=by decide +kernel
theorem zmd:LN .local s_write_saying "saying":=by decide +kernel
theorem zme:LN .local s_write_saying "signs":=by decide +kernel
theorem zmf:LN .globalImplicit s_write_saying "written":=by decide +kernel
def spWrite (C:Addr):Sp:=fun vs H Q _=>∃ (g:Addr) (v:V) (ks:List Str) (ts:List TieR) (fs:List FunR) (t:Tr),vs=[.ref g,v]∧SignsAt C H g ks ts fs∧BookOk ks ts fs∧Mix H v t∧IsSy ks ts fs (fun _=>none) t∧dep t≤12∧(wr t).length≤1000000∧∀ H',Same H H'→Q (.str (wr t)) H'
theorem ok_write {C:Addr} (F:FunAt K mg "write_saying" s_write_saying ["signs","saying"]) (Z:Bl mg) (D_looked_over:Def P w K mg base "looked_over" 30 ["signs","thing"] (spLook C)) (D_written:Def P w K mg base "written" (12+2) ["thing"] (spWr 12)):Def P w K mg base "write_saying" 31 ["signs","saying"] (spWrite C):=by
 have SC:=zmb
 refine F.mk' (k:=30) zmb (fun vs H Q E h=>?_) (fun f cdv A outer s H vs Q E hr h=>?_)
 ·obtain⟨g,v,ks,ts,fs,t,rfl,_⟩:=h
  rfl
 ·obtain⟨g,v,ks,ts,fs,t,rfl,hS,ok,hm,hs,hd,hw,q⟩:=h
  refine'⟨_,?derivation,?_⟩
  case derivation=>refine' pss_one ?Aa;case Aa=>refine' ps_ret ?Ba;case Ba=>refine' pe_def (hdb:=zls) D_written (hr.mono (by decide)) zmf ?Ca rfl rfl;case Ca=>refine' pa_cons ?Da pa_nil ?Ea;(case Da=>refine' pe_def (hdb:=zl2) D_looked_over (hr.mono (by decide)) zmc ?Fa rfl rfl;case Fa=>refine' pa_cons (pq 0 (visL zme) zlc zld) ?Ga ?Ha;(case Ga=>refine' pa_cons (pq 1 (visL zmd) zl3 zl4) pa_nil ?Ia;case Ia=>rfl);case Ha=>rfl);case Ea=>rfl
  refine⟨_,rfl,_,rfl,g,v,ks,ts,fs,t,rfl,hS,ok,hm,hs,hd,fun u H1 tu s1=>?_⟩
  exact⟨u,t,rfl,tu,hd,hw,fun H2 s2=>q H2 (s1.trans s2)⟩
end
theorem zmg:LD "rows":=by decide +kernel
theorem zmh:LS "rows":=by decide +kernel
theorem zmi:LD "text":=by decide +kernel
theorem flat_len {f:Nat→List Nat} (h:∀ d,(f d).length≤3):∀ l:List Nat,(l.flatMap f).length≤3*l.length
 | []=>by simp
 | d::r=>by
  rw [List.flatMap_cons,List.length_append,List.length_cons]
  have:=h d
  have:=flat_len h r
  omega
theorem slen (x:Str):x.length=x.cps.toList.length:=by show x.cps.size=_; simp
theorem rep1_len (x:Str):(Txt.replace x "(" " ( ").length≤3*x.length:=by
 rw [slen,slen,show ("(":Str)=⟨#[40]⟩ from rfl,rep_flat]
 exact flat_len (fun d=>by by_cases h:d=40 <;> simp [h]; decide) _
theorem rep2_len (x:Str):(Txt.replace x ")" " ) ").length≤3*x.length:=by
 rw [slen,slen,show (")":Str)=⟨#[41]⟩ from rfl,rep_flat]
 exact flat_len (fun d=>by by_cases h:d=41 <;> simp [h]; decide) _
theorem atI_last {α:Type} (l:List α) (x:α):atI (l++[x]) (-1)=some x:=by
 unfold atI ixN
 have h:¬ ((0:Int)≤-1):=by decide
 rw [if_neg h]
 simp
 rw [if_pos (by omega)]
 have e:(-1+((l.length:Int)+1)).toNat=l.length:=by omega
 simp [e]
section
variable {P:Program} {w:World} {K:PySem.W.Frag} {mg:Str→Option Value} {base:Heap}
abbrev s_bracketed:Stmt:=top 23
theorem zmj:FnScope ["text","rows","word","row"] ["text"] (defScope s_bracketed):=⟨rfl,rfl,rfl,by decide +kernel,rfl,by decide +kernel,by decide +kernel⟩
theorem zmk:LN .globalImplicit s_bracketed "len":=by decide +kernel
theorem zml:LN .local s_bracketed "row":=by decide +kernel
theorem zmm:LN .local s_bracketed "rows":=by decide +kernel
theorem zmn:LN .local s_bracketed "text":=by decide +kernel
theorem zmo:LN .local s_bracketed "word":=by decide +kernel
def spBr:Sp:=fun vs H Q _=>∃ (t:Tr),vs=[.str (wr t)]∧OkT t∧(wr t).length≤100000∧∀ u H',Mix H' u t→Same H H'→Q u H'
theorem ok_br (F:FunAt K mg "bracketed" s_bracketed ["text"]) (Z:Bl mg):Def P w K mg base "bracketed" 1 ["text"] spBr:=by
 have SC:=zmj
 refine F.mk' (k:=0) zmj (fun vs H Q E h=>?_) (fun f cdv A outer s H vs Q E hr h=>?_)
 ·obtain⟨t,rfl,_⟩:=h
  rfl
 ·obtain⟨t,rfl,ok,hl,q⟩:=h
  refine'⟨_,?derivation,?_⟩
  case derivation=>refine' pss_setT (i:=1) (x:=Str.ofString "rows") SC.nd rfl zmm ?Aa ?Ba rfl;(case Aa=>refine' pe_lst ?Ca;case Ca=>refine' pa_cons ?Da pa_nil ?Ea;(case Da=>refine' pe_lst pa_nil);case Ea=>rfl);case Ba=>refine' pss_consT ?Fa ?Ga;(case Fa=>refine' ps_forT PassesOwn.never rfl ?Ha ?Ia ?Ja ?Ka;(case Ha=>refine' pit_split ?La rfl rfl;case La=>refine' pet_replace ?Ma rfl rfl;case Ma=>refine' pet_replace ?Na rfl rfl;case Na=>refine' pet_var (i:=0) (x:=Str.ofString "text") rfl zmn zmi);(case Ia=>refine' pg_name (i:=2) (x:=Str.ofString "word") SC.nd rfl (Or.inl zmo) (.inl rfl));(case Ja=>refine' pss_one ?Oa;case Oa=>refine' ps_if ?Pa ?Qa ?Ra;(case Pa=>refine' pt_cmpR op_eq (pq 2 (visL zmo) zic zid) ?Sa (nomark _);case Sa=>exact pe_str);(case Qa=>refine' pss_one ?Ta;case Ta=>refine' ps_expr ?Ua rfl;case Ua=>refine' pe_bm PySem.F.plainAttrs_list PySem.F.slot_list_append PySem.F.type_list_append mt_append (pq 1 (visL zmm) zmg zmh) ?Va rfl rfl rfl rfl rfl;case Va=>refine' pa_cons ?Wa pa_nil ?Xa;(case Wa=>refine' pe_lst pa_nil);case Xa=>rfl);case Ra=>refine' pss_one ?Ya;case Ya=>refine' ps_if ?Za ?Ab ?Bb;(case Za=>refine' pt_cmpR op_eq (pq 2 (visL zmo) zic zid) ?Cb (nomark _);case Cb=>exact pe_str);(case Ab=>refine' pss_cons ?Db ?Eb;(case Db=>refine' ps_set (i:=3) (x:=Str.ofString "row") ?Fb ?Gb ?Hb ?Ib ?Jb ?Kb;(case Fb=>exact SC.nd);(case Gb=>exact rfl);(case Hb=>exact(Or.inl zml));(case Ib=>refine' pe_bm0 PySem.F.plainAttrs_list PySem.F.slot_list_pop PySem.F.type_list_pop mt_pop (pq 1 (visL zmm) zmg zmh) rfl rfl);(case Jb=>rfl);case Kb=>exact .inl rfl);case Eb=>refine' pss_cons ?Lb ?Mb;(case Lb=>refine' ps_if ?Nb ?Ob pss_nil;(case Nb=>refine' pt_not ?Pb;case Pb=>refine' pt_truth (pq 1 (visL zmm) zmg zmh) ?Qb;case Qb=>intro _;exact rfl);case Ob=>refine' pss_one ps_never);case Mb=>refine' pss_one ?Rb;case Rb=>refine' ps_expr ?Sb rfl;case Sb=>refine' pe_bm PySem.F.plainAttrs_list PySem.F.slot_list_append PySem.F.type_list_append mt_append ?Tb ?Ub rfl rfl rfl rfl rfl;(case Tb=>refine' pe_ix ix_list (pq 1 (visL zmm) zmg zmh) ?Vb ?Wb;(case Vb=>refine' pe_un un_neg ?Xb;case Xb=>exact pe_int);case Wb=>intro _ _;exact rfl);case Ub=>refine' pa_cons (pq 3 (visL zml) zh2 zh3) pa_nil ?Yb;case Yb=>rfl);case Bb=>refine' pss_one ?Zb;case Zb=>refine' ps_if ?Ac ?Bc pss_nil;(case Ac=>refine' pt_truth (pq 2 (visL zmo) zic zid) ?Cc;case Cc=>intro _;exact rfl);case Bc=>refine' pss_one ?Dc;case Dc=>refine' ps_expr ?Ec rfl;case Ec=>refine' pe_bm PySem.F.plainAttrs_list PySem.F.slot_list_append PySem.F.type_list_append mt_append ?Fc ?Gc rfl rfl rfl rfl rfl;(case Fc=>refine' pe_ix ix_list (pq 1 (visL zmm) zmg zmh) ?Hc ?Ic;(case Hc=>refine' pe_un un_neg ?Jc;case Jc=>exact pe_int);case Ic=>intro _ _;exact rfl);case Gc=>refine' pa_cons (pq 2 (visL zmo) zic zid) pa_nil ?Kc;case Kc=>rfl);case Ka=>intro _; rfl);case Ga=>refine' pss_cons ?Lc ?Mc;(case Lc=>refine' ps_if ?Nc ?Oc pss_nil;(case Nc=>refine' PW.pt ?Pc;case Pc=>refine' pw_or ?Qc ?Rc;(case Qc=>refine' pt_cmpR op_ne ?Sc ?Tc (nomark _);(case Sc=>refine' pe_callB (hn:=zbw) (hdb:=zbv) call_len_seq zmk Z.n_len bt_len ?Uc rfl rfl;case Uc=>refine' pa_cons (pq 1 (visL zmm) zmg zmh) pa_nil ?Vc;case Vc=>rfl);case Tc=>exact pe_int);case Rc=>refine' pw_or1 ?Wc;case Wc=>refine' pt_cmpR op_ne ?Xc ?Yc (nomark _);(case Xc=>refine' pe_callB (hn:=zbw) (hdb:=zbv) call_len_seq zmk Z.n_len bt_len ?Zc rfl rfl;case Zc=>refine' pa_cons ?Ad pa_nil ?Bd;(case Ad=>refine' pe_ix ix_list (pq 1 (visL zmm) zmg zmh) ?Cd ?Dd;(case Cd=>exact pe_int);case Dd=>intro _ _;exact rfl);case Bd=>rfl);case Yc=>exact pe_int);case Oc=>refine' pss_one ps_never);case Mc=>refine' pss_one ?Ed;case Ed=>refine' ps_ret ?Fd;case Fd=>refine' pe_ix ix_list ?Gd ?Hd ?Id;(case Gd=>refine' pe_ix ix_list (pq 1 (visL zmm) zmg zmh) ?Jd ?Kd;(case Jd=>exact pe_int);case Kd=>intro _ _;exact rfl);(case Hd=>exact pe_int);case Id=>intro _ _;exact rfl
  have r1:=rep1_len (wr t)
  have r2:=rep2_len (Txt.replace (wr t) "(" " ( ")
  have l3:(" ( ":Str).length=3:=rfl
  have l4:(" ) ":Str).length=3:=rfl
  have wl:(wd t).length≤900001:=by
   have js:=join_sum (wd t)
   have e:Txt.replace (Txt.replace (wr t) "(" " ( ") ")" " ) "=Str.join " " (wd t):=str_eq ((rep_both _).trans (wd_join t ok))
   rw [← e] at js
   omega
  refine⟨by show 0≤sizeLine; decide,fun a0 ha0=>⟨by show 1≤sizeLine; decide,fun D hD=>?_⟩⟩
  refine⟨_,rfl,wr t,rfl,by rw [l3]; omega,by decide +kernel,_,rfl,by rw [l4]; omega,by decide +kernel,_,rfl,by decide +kernel,Nat.lt_of_le_of_lt (show _≤900000 by omega) (by decide),by rw [words_of ok]; exact Nat.le_trans wl (by decide),fun L hL=>?_⟩
  rw [words_of ok]
  have s1:=same_new ha0 (.lst [])
  have s2:=same_new hD (.lst [.ref a0])
  have s3:=same_new hL (.lst ((wd t).map V.str))
  have hLH:H L=none:=(s1.trans s2).free hL
  have nLD:L≠D:=by rintro rfl; rw [upd_same] at hL; cases hL
  have nLa:L≠a0:=by rintro rfl; rw [s2 _ _ upd_same] at hL; cases hL
  have nDa:D≠a0:=by rintro rfl; rw [upd_same] at hD; cases hD
  have sx:Same H (upd H L (.lst ((wd t).map V.str))):=same_new hLH _
  have R0:RowsOk (upd H L (.lst ((wd t).map V.str))) (upd (upd (upd H a0 (.lst [])) D (.lst [.ref a0])) L (.lst ((wd t).map V.str))) D [a0] [[]]:=by
   refine⟨fun c o e=>?_,by rw [upd_ne (Ne.symm nLD)]; exact s1.free hD,fun a ha=>?_,by simp [nDa],by rw [upd_ne (Ne.symm nLD)]; exact upd_same,.cons ⟨[],?_,.nil⟩ .nil⟩
   ·by_cases hc:c=L
    ·subst hc; rw [upd_same] at e ⊢; exact e
    ·rw [upd_ne hc] at e ⊢
     exact s2 _ _ (s1 _ _ e)
   ·rw [List.mem_singleton.mp ha,upd_ne (Ne.symm nLa)]; exact ha0
   ·rw [upd_ne (Ne.symm nLa),upd_ne (Ne.symm nDa)]; exact upd_same
  generalize (upd (upd (upd H a0 (.lst [])) D (.lst [.ref a0])) L (.lst ((wd t).map V.str)))=H3 at R0
  have rn:=run_wd t ok [] []
  refine for_list (K:=K) (a:=L) (xs:=(wd t).map V.str) (fun i σ H2=>∃ (as:List Addr) (st:List (List Tr)) (v2 v3:Option V),σ=[some (.str (wr t)),some (.ref D),v2,v3]∧run ((wd t).take i) [[]]=some st∧RowsOk (upd H L (.lst ((wd t).map V.str))) H2 D as st∧(st.map List.length).sum+st.length≤i+1)
   ⟨[a0],[[]],_,_,rfl,rfl,R0,by decide⟩ (fun i σ H2 _ ⟨_,_,_,_,_,_,y,_⟩=>SqL.of (y.same _ _ upd_same)) ?_ ?_
  ·rintro i y σ H2 hi ⟨as,st,v2,v3,rfl,hrun,ro,hb⟩
   rw [List.getElem?_map] at hi
   obtain⟨wrd,hw,rfl⟩:=Option.map_eq_some_iff.mp hi
   obtain⟨st',st2,e1,e2,e3⟩:=run_take rn hw
   rw [hrun] at e1; cases e1
   have hil:i<(wd t).length:=(List.getElem?_eq_some_iff.mp hw).1
   have al:as.length=st.length:=Paired.length ro.rows
   have dl:(as.reverse.map V.ref).length<sizeLine:=Nat.lt_of_le_of_lt (show _≤900002 by rw [List.length_map,List.length_reverse]; omega) (by decide)
   unfold stp at e2
   by_cases h1:wrd="("
   ·rw [if_pos h1] at e2
    cases e2
    refine⟨_,rfl,rfl,_,rfl,ifT (decide_eq_true (by rw [h1])) ?_⟩
    exact⟨_,rfl,.inl ⟨rfl,_,SqL.of ro.d⟩,by show 0≤sizeLine; decide,fun p hp=>⟨D,_,_,rfl,rfl,by rw [upd_ne (ne_of_none ro.d hp)]; exact ro.d,dl,p::as,_,_,_,rfl,e3,ro.push hp,by simp; omega⟩⟩
   rw [if_neg h1] at e2
   refine⟨_,rfl,rfl,_,rfl,ifF (by simp; exact h1) ?_⟩
   by_cases h2:wrd=")"
   ·rw [if_pos h2] at e2
    refine⟨_,rfl,rfl,_,rfl,ifT (decide_eq_true (by rw [h2])) ?_⟩
    match st,e2,ro,hb,al with
    | [],e2,_,_,_=>cases e2
    | [_],e2,_,_,_=>cases e2
    | r::q'::rest,e2,ro,hb,al=>
     cases e2
     match as,ro,al,dl with
     | [],_,al,_=>simp at al
     | [_],_,al,_=>simp at al
     | a::b::as',ro,al,dl=>
      have nd:=List.nodup_cons.mp ro.nd
      have bD:b≠D:=fun e=>nd.1 (by rw [← e]; exact List.mem_cons_of_mem _ List.mem_cons_self)
      obtain⟨ys,ey,my⟩:∃ ys,H2 b=some (.lst ys)∧ys.length=q'.length:=by
       have:=ro.rows
       cases this with
       | cons f t2=>
       cases t2 with
       | cons g t3=>
        obtain⟨zs,ez,mz⟩:=g
        exact⟨zs,ez,mz.length⟩
      have exs:(a::b::as').reverse.map V.ref=(b::as').reverse.map V.ref++[V.ref a]:=by rw [List.reverse_cons,List.map_append]; rfl
      have exb:(b::as').reverse.map V.ref=as'.reverse.map V.ref++[V.ref b]:=by rw [List.reverse_cons,List.map_append]; rfl
      have d':H2 D=some (.lst ((b::as').reverse.map V.ref++[V.ref a])):=by rw [← exs]; exact ro.d
      refine⟨_,rfl,.inl ⟨rfl,_,SqL.of d'⟩,D,_,.ref a,rfl,rfl,d',by simp,?_⟩
      rw [List.dropLast_concat]
      refine⟨_,rfl,true,.inl ⟨_,SqL.of upd_same,by rw [exb]; simp⟩,iteF ?_⟩
      have eb:(upd H2 D (.lst ((b::as').reverse.map V.ref))) b=some (.lst ys):=by rw [upd_ne bD]; exact ey
      simp only [List.map_cons,List.sum_cons,List.length_cons] at hb
      exact⟨_,rfl,1,rfl,D,_,-1,.ref b,rfl,rfl,SqL.of upd_same,by rw [exb]; exact atI_last _ _,.inl ⟨rfl,_,SqL.of eb⟩,_,rfl,b,ys,_,rfl,rfl,eb,Nat.lt_of_le_of_lt (show ys.length≤900002 by omega) (by decide),b::as',_,_,_,rfl,e3,ro.pop ey,by simp only [List.map_cons,List.sum_cons,List.length_cons,List.length_append,List.length_nil]; omega⟩
   rw [if_neg h2] at e2
   refine⟨_,rfl,rfl,_,rfl,ifF (by simp; exact h2) ?_⟩
   by_cases h3:wrd=Str.empty
   ·rw [if_pos h3] at e2
    cases e2
    subst h3
    exact⟨_,rfl,false,⟨by decide,rfl⟩,iteF ⟨as,st,_,_,rfl,e3,ro,by omega⟩⟩
   ·rw [if_neg h3] at e2
    match st,e2,ro,hb,al with
    | [],e2,_,_,_=>cases e2
    | r::rest,e2,ro,hb,al=>
     cases e2
     match as,ro,al,dl with
     | [],_,al,_=>simp at al
     | a::as',ro,al,dl=>
      obtain⟨ys,ey,my⟩:∃ ys,H2 a=some (.lst ys)∧ys.length=r.length:=by
       have:=ro.rows
       cases this with
       | cons f t2=>
        obtain⟨zs,ez,mz⟩:=f
        exact⟨zs,ez,mz.length⟩
      have exb:(a::as').reverse.map V.ref=as'.reverse.map V.ref++[V.ref a]:=by rw [List.reverse_cons,List.map_append]; rfl
      have wlen:wrd.length≤sizeLine:=by
       have:=join_mem_le " " (wd t) wrd (List.mem_of_getElem? hw)
       have e:Txt.replace (Txt.replace (wr t) "(" " ( ") ")" " ) "=Str.join " " (wd t):=str_eq ((rep_both _).trans (wd_join t ok))
       rw [← e] at this
       exact Nat.le_trans (show wrd.length≤900000 by omega) (by decide)
      have wne:((wrd.length:Int) != 0)=true:=by
       have : wrd.length≠0:=fun z=>h3 (str_eq (by rw [slen] at z; rw [List.length_eq_zero_iff.mp z]; rfl))
       simp; omega
      simp only [List.map_cons,List.sum_cons,List.length_cons] at hb
      refine⟨_,rfl,true,⟨wlen,wne.symm⟩,ifT rfl ?_⟩
      exact⟨_,rfl,1,rfl,D,_,-1,.ref a,rfl,rfl,SqL.of ro.d,by rw [exb]; exact atI_last _ _,.inl ⟨rfl,_,SqL.of ey⟩,_,rfl,a,ys,_,rfl,rfl,ey,Nat.lt_of_le_of_lt (show ys.length≤900002 by omega) (by decide),a::as',_,_,_,rfl,e3,ro.add ey,by simp only [List.map_cons,List.sum_cons,List.length_cons,List.length_append,List.length_nil]; omega⟩
  ·rintro σ H2 ⟨as,st,v2,v3,rfl,hrun,ro,hb⟩
   rw [List.length_map,List.take_length,rn] at hrun
   cases hrun
   have:=ro.rows
   cases this with
   | cons f t2=>
    cases t2
    obtain⟨xs,ex,mx⟩:=f
    cases mx with
    | cons m0 m1=>
     cases m1
     have d1:=ro.d
     refine⟨_,rfl,D,_,rfl,.inl (SqL.of d1),rfl,_,rfl,ifF (by simp) ?_⟩
     refine⟨_,rfl,D,_,0,_,rfl,rfl,SqL.of d1,rfl,_,_,rfl,.inl (SqL.of ex),rfl,_,rfl,ifF (by simp) ?_⟩
     exact⟨_,rfl,D,_,0,_,rfl,rfl,SqL.of d1,rfl,_,_,0,_,rfl,rfl,SqL.of ex,rfl,q _ H2 (mixR_mix m0) (sx.trans ro.same)⟩
end
theorem zmp:LD "bracketed":=by decide +kernel
theorem zmq:LS "text":=by decide +kernel
theorem nm_ok {z:Str} (h:isNm z):OkT (.leaf z):=by
 refine⟨?_,fun c hc=>?_⟩
 ·rintro rfl
  have:=h.1
  exact absurd this (by decide)
 ·have:=h.2.2 c hc
  omega
theorem wds_ok:∀ z∈[("=":Str),"not","and","or","all","some"],OkT (.leaf z):=by
 intro z hz
 have : ∀ z∈[("=":Str),"not","and","or","all","some"],z≠Str.empty∧∀ c∈z.cps.toList,c≠32∧c≠40∧c≠41:=by decide +kernel
 exact this z hz
mutual
theorem tm_ok {ks:List Str} {ts:List TieR} {fs:List FunR} (B:BookOk ks ts fs) {S:Str→Option Str} (hS:∀ x k,S x=some k→isNm x):∀ {t:Tr} {k:Str},IsTm fs S t k→OkT t
 | _,_,.var h=>nm_ok (hS _ _ h)
 | _,_,.app hf r=>⟨fun z=>(by cases z),nm_ok (B.fn _ hf).1.1,tms_ok B hS r⟩
theorem tms_ok {ks:List Str} {ts:List TieR} {fs:List FunR} (B:BookOk ks ts fs) {S:Str→Option Str} (hS:∀ x k,S x=some k→isNm x):∀ {t:List Tr} {k:List Str},IsTms fs S t k→OkA t
 | _,_,.nil=>trivial
 | _,_,.cons h r=>⟨tm_ok B hS h,tms_ok B hS r⟩
end
theorem scPut_nm {S:Str→Option Str} (hS:∀ x k,S x=some k→isNm x) {z q:Str} (hz:isNm z):∀ x k,scPut S z q x=some k→isNm x:=by
 intro x k h
 unfold scPut at h
 by_cases e:x=z
 ·rw [e]; exact hz
 ·rw [if_neg e] at h; exact hS _ _ h
mutual
theorem sy_ok {ks:List Str} {ts:List TieR} {fs:List FunR} (B:BookOk ks ts fs):∀ {S:Str→Option Str} {t:Tr},(∀ x k,S x=some k→isNm x)→IsSy ks ts fs S t→OkT t
 | _,_,hS,.eq a b=>⟨fun z=>(by cases z),wds_ok _ (by simp),tm_ok B hS a,tm_ok B hS b,trivial⟩
 | _,_,hS,.not a=>⟨fun z=>(by cases z),wds_ok _ (by simp),sy_ok B hS a,trivial⟩
 | _,_,hS,.conn hw _ a=>⟨fun z=>(by cases z),wds_ok _ (by rcases hw with rfl | rfl <;> simp),sys_ok B hS a⟩
 | _,_,hS,.bind hw hx hk a=>⟨fun z=>(by cases z),wds_ok _ (by rcases hw with rfl | rfl <;> simp),nm_ok hx,nm_ok (B.kn2 _ hk),sy_ok B (scPut_nm hS hx) a,trivial⟩
 | _,_,hS,.tie ht a=>⟨fun z=>(by cases z),nm_ok (B.tn _ ht).1.1,tms_ok B hS a⟩
theorem sys_ok {ks:List Str} {ts:List TieR} {fs:List FunR} (B:BookOk ks ts fs):∀ {S:Str→Option Str} {t:List Tr},(∀ x k,S x=some k→isNm x)→IsSys ks ts fs S t→OkA t
 | _,_,_,.nil=>trivial
 | _,_,hS,.cons a r=>⟨sy_ok B hS a,sys_ok B hS r⟩
end
section
variable {P:Program} {w:World} {K:PySem.W.Frag} {mg:Str→Option Value} {base:Heap}
abbrev s_read_saying:Stmt:=top 22
theorem zmr:FnScope ["signs","text","saying"] ["signs","text"] (defScope s_read_saying):=⟨rfl,rfl,rfl,by decide +kernel,rfl,by decide +kernel,by decide +kernel⟩
theorem zms:LN .globalImplicit s_read_saying "bracketed":=by decide +kernel
theorem zmt:LN .globalImplicit s_read_saying "isinstance":=by decide +kernel
theorem zmu:LN .globalImplicit s_read_saying "looked_over":=by decide +kernel
theorem zmv:LN .local s_read_saying "saying":=by decide +kernel
theorem zmw:LN .local s_read_saying "signs":=by decide +kernel
theorem zmx:LN .globalImplicit s_read_saying "str":=by decide +kernel
theorem zmy:LN .local s_read_saying "text":=by decide +kernel
theorem zmz:LN .globalImplicit s_read_saying "written":=by decide +kernel
def spRead (C:Addr):Sp:=fun vs H Q _=>∃ (g:Addr) (ks:List Str) (ts:List TieR) (fs:List FunR) (t:Tr),vs=[.ref g,.str (wr t)]∧SignsAt C H g ks ts fs∧BookOk ks ts fs∧IsSy ks ts fs (fun _=>none) t∧dep t≤12∧(wr t).length≤100000∧∀ u H',Tup H' u t→Same H H'→Q u H'
theorem ok_read {C:Addr} (F:FunAt K mg "read_saying" s_read_saying ["signs","text"]) (Z:Bl mg) (D_looked_over:Def P w K mg base "looked_over" 30 ["signs","thing"] (spLook C)) (D_written:Def P w K mg base "written" (12+2) ["thing"] (spWr 12)) (D_bracketed:Def P w K mg base "bracketed" 1 ["text"] spBr):Def P w K mg base "read_saying" 31 ["signs","text"] (spRead C):=by
 have SC:=zmr
 refine F.mk' (k:=30) zmr (fun vs H Q E h=>?_) (fun f cdv A outer s H vs Q E hr h=>?_)
 ·obtain⟨g,ks,ts,fs,t,rfl,_⟩:=h
  rfl
 ·obtain⟨g,ks,ts,fs,t,rfl,hS,ok,hs,hd,hw,q⟩:=h
  have ho:=sy_ok ok (fun _ _ z=>by cases z) hs
  refine'⟨_,?derivation,?_⟩
  case derivation=>refine' pss_cons ?Aa ?Ba;(case Aa=>refine' ps_if ?Ca ?Da pss_nil;(case Ca=>refine' pt_not ?Ea;case Ea=>refine' pt_val ?Fa ?Ga;(case Fa=>refine' pe_callB (hn:=zd8) (hdb:=zd7) (call_isiT (T:="str")) zmt Z.n_isinstance bt_isinstance ?Ha rfl rfl;case Ha=>refine' pa_cons (pq 1 (visL zmy) zmi zmq) ?Ia ?Ja;(case Ia=>refine' pa_cons ?Ka pa_nil ?La;(case Ka=>refine' pe_bltn (v:=V.ty "str") (hn:=zeo) (hd:=zen) zmx Z.n_str bt_str rfl);case La=>rfl);case Ja=>rfl);case Ga=>intro _; rfl);case Da=>refine' pss_one ps_never);case Ba=>refine' pss_cons ?Ma ?Na;(case Ma=>refine' ps_set (i:=2) (x:=Str.ofString "saying") ?Oa ?Pa ?Qa ?Ra ?Sa ?Ta;(case Oa=>exact SC.nd);(case Pa=>exact rfl);(case Qa=>exact(Or.inl zmv));(case Ra=>refine' pe_def (hdb:=zl2) D_looked_over (hr.mono (by decide)) zmu ?Ua rfl rfl;case Ua=>refine' pa_cons (pq 0 (visL zmw) zlc zld) ?Va ?Wa;(case Va=>refine' pa_cons ?Xa pa_nil ?Ya;(case Xa=>refine' pe_def (hdb:=zmp) D_bracketed (hr.mono (by decide)) zms ?Za rfl rfl;case Za=>refine' pa_cons (pq 1 (visL zmy) zmi zmq) pa_nil ?Ab;case Ab=>rfl);case Ya=>rfl);case Wa=>rfl);(case Sa=>rfl);case Ta=>exact .inl rfl);case Na=>refine' pss_cons ?Bb ?Cb;(case Bb=>refine' ps_if ?Db ?Eb pss_nil;(case Db=>refine' pt_cmpR op_ne ?Fb (pq 1 (visL zmy) zmi zmq) (nomark _);case Fb=>refine' pe_def (hdb:=zls) D_written (hr.mono (by decide)) zmz ?Gb rfl rfl;case Gb=>refine' pa_cons (pq 2 (visL zmv) zl3 zl4) pa_nil ?Hb;case Hb=>rfl);case Eb=>refine' pss_one ps_never);case Cb=>refine' pss_one ?Ib;case Ib=>refine' ps_ret (pq 2 (visL zmv) zl3 zl4)
  refine⟨_,rfl,_,_,_,rfl,.str _,kit_str1 K,true,rfl,iteF ?_⟩
  refine⟨_,rfl,_,rfl,t,rfl,ho,hw,fun v H1 hm s1=>?_⟩
  refine⟨g,v,ks,ts,fs,t,rfl,hS.same s1,ok,hm,hs,hd,fun u H2 tu s2=>?_⟩
  refine⟨_,rfl,u,t,rfl,tu,hd,by omega,fun H3 s3=>?_⟩
  refine⟨_,rfl,rfl,_,rfl,ifF (by simp) ?_⟩
  exact⟨_,rfl,q u H3 (tup_keep (Few.Same.tups s3) tu) ((s1.trans s2).trans s3)⟩
end
theorem zm0:LD "_law_one":=by decide +kernel
theorem zm1:LS "_law_one":=by decide +kernel
theorem zm2:LD "_law_row":=by decide +kernel
theorem zm3:LS "_law_row":=by decide +kernel
theorem zm4:LD "_law_thing":=by decide +kernel
theorem zm5:LS "_law_thing":=by decide +kernel
theorem zm6:LD "_law_written":=by decide +kernel
theorem for_enumT {K:PySem.W.Frag} {a:Addr} {xs:List V} {g:TG} {tb:TS} {D:Ends} {σ:St} {H:Hp} (Pv:Nat→St→Hp→Prop) (h0:Pv 0 σ H) (hl:∀ i σ H,i≤xs.length→Pv i σ H→SqT K H a xs)
  (hs:∀ i x σ H p,xs[i]? = Option.some x→Pv i σ H→H p=none→g (.ref p) σ (upd H p (.tup [.int i,x])) fun σ2 H2=>tb {D with nx:=Pv (i+1),ct:=Pv (i+1),bk:=D.nx} σ2 H2) (hd:∀ σ H,Pv xs.length σ H→D.nx σ H) :
  ∃ W:Nat→Nat→St→Hp→Prop,(∃ m,W 0 m σ H)∧∀ i m σ H,W i m σ H→
   ((IteT K a).stop i H∧D.nx σ H)∨((IteT K a).go i H∧∃ N:St→Hp→Prop,(∀ σ' H',N σ' H'→∃ m',m'<m∧W (i+1) m' σ' H')∧∀ x H',(IteT K a).yld i H x H'→g x σ H' fun σ2 H2=>tb {D with nx:=N,ct:=N,bk:=D.nx} σ2 H2):=by
 refine⟨fun i m σ H=>m=xs.length-i∧i≤xs.length∧Pv i σ H,⟨xs.length,by simp,Nat.zero_le _,h0⟩,?_⟩
 rintro i m σ H ⟨rfl,hi,p⟩
 have q:=hl i σ H hi p
 by_cases hlt:i<xs.length
 ·refine .inr ⟨⟨xs,xs[i],q,by simp [hlt]⟩,Pv (i+1),fun σ' H' p'=>⟨xs.length - (i+1),by omega,rfl,hlt,p'⟩,fun x H' y=>?_⟩
  obtain⟨r,z,hr,rfl,rfl,hz⟩:=y
  exact hs i z σ _ r (hz _ q) p hr
 ·have e:i=xs.length:=by omega
  subst e
  exact .inl ⟨⟨xs,q,Nat.le_refl _⟩,hd σ H p⟩
theorem str_ext' {a b:Str} (h:a.cps.toList=b.cps.toList):a=b:=by
 cases a
 cases b
 exact congrArg Str.mk (Array.toList_inj.mp h)
theorem join_snoc {l:List Str} (x:Str) (h:l≠[]):Str.join " " (l++[x])=Str.join " " l++" "++x:=by
 apply str_ext'
 rw [join_app h (by simp),app_list,app_list]
 simp
 rfl
theorem join_take_le (l:List Str) (i:Nat):(Str.join " " (l.take i)).length≤(Str.join " " l).length:=by
 by_cases h1:l.take i=[]
 ·rw [h1]; exact Nat.zero_le _
 by_cases h2:l.drop i=[]
 ·have : l.take i=l:=by have:=List.take_append_drop i l; rw [h2,List.append_nil] at this; exact this
  rw [this]; exact Nat.le_refl _
 have:=join_app h1 h2
 rw [List.take_append_drop] at this
 have e:=congrArg List.length this
 rw [List.length_append] at e
 rw [str_len,str_len]
 omega
def acc (ts:List Tr) (i:Nat):Str:=("(":Str)++Str.join " " ((ts.map wr).take i)
theorem acc_len (ts:List Tr) (i:Nat):(acc ts i).length≤(Str.join " " (ts.map wr)).length+1:=by
 have:=join_take_le (ts.map wr) i
 unfold acc
 rw [len_app]
 have l1:("(":Str).length=1:=rfl
 omega
theorem acc_1 {ts:List Tr} {t:Tr} (h:ts[0]? = some t):acc ts 1=acc ts 0++wr t:=by
 cases ts with
 | nil=>cases h
 | cons a r=>
  simp at h; subst h
  apply str_ext'
  unfold acc
  rw [app_list,app_list,app_list]
  show _=_++[]++_
  rw [List.append_nil]
  rfl
theorem acc_s {ts:List Tr} {t:Tr} {i:Nat} (h:ts[i]? = some t) (hi:0<i):acc ts (i+1)=acc ts i++" "++wr t:=by
 have hl:i<ts.length:=(List.getElem?_eq_some_iff.mp h).1
 have e:(ts.map wr).take (i+1)=(ts.map wr).take i++[wr t]:=by
  rw [List.take_succ,List.getElem?_map,h]; rfl
 have n:(ts.map wr).take i≠[]:=by
  intro z
  have:=congrArg List.length z
  rw [List.length_take,List.length_map,List.length_nil] at this
  omega
 apply str_ext'
 unfold acc
 rw [e,join_snoc _ n]
 simp only [app_list,List.append_assoc]
section
variable {P:Program} {w:World} {K:PySem.W.Frag} {mg:Str→Option Value} {base:Heap}
abbrev s_law_written:Stmt:=top 50
theorem zm7:FnScope ["_law_thing","_law_row","_law_k","_law_one"] ["_law_thing"] (defScope s_law_written):=⟨rfl,rfl,rfl,by decide +kernel,rfl,by decide +kernel,by decide +kernel⟩
theorem zm8:LN .local s_law_written "_law_k":=by decide +kernel
theorem zm9:LN .local s_law_written "_law_one":=by decide +kernel
theorem zna:LN .local s_law_written "_law_row":=by decide +kernel
theorem znb:LN .local s_law_written "_law_thing":=by decide +kernel
theorem znc:LN .globalImplicit s_law_written "_law_written":=by decide +kernel
theorem znd:LN .globalImplicit s_law_written "enumerate":=by decide +kernel
theorem zne:LN .globalImplicit s_law_written "isinstance":=by decide +kernel
theorem znf:LN .globalImplicit s_law_written "str":=by decide +kernel
theorem ok_lw_of (F:FunAt K mg "_law_written" s_law_written ["_law_thing"]) (Z:Bl mg) (n_enumerate:mg "enumerate"=none) (n:Nat) (D_law_written:Def P w K mg base "_law_written" (n+1) ["_law_thing"] (spWr' n)):Def P w K mg base "_law_written" (n+2) ["_law_thing"] (spWr n):=by
 have SC:=zm7
 refine F.mk' (k:=n+1) zm7 (fun vs H Q E h=>?_) (fun f cdv A outer s H vs Q E hr h=>?_)
 ·obtain⟨v,t,rfl,_⟩:=h
  rfl
 ·obtain⟨v,t,rfl,ht,hn,hw,q⟩:=h
  refine'⟨_,?derivation,?_⟩
  case derivation=>refine' pss_cons ?Aa ?Ba;(case Aa=>refine' ps_if ?Ca ?Da pss_nil;(case Ca=>refine' pt_val ?Ea ?Fa;(case Ea=>refine' pe_callB (hn:=zd8) (hdb:=zd7) (call_isiT (T:="str")) zne Z.n_isinstance bt_isinstance ?Ga rfl rfl;case Ga=>refine' pa_cons (pq 0 (visL znb) zm4 zm5) ?Ha ?Ia;(case Ha=>refine' pa_cons ?Ja pa_nil ?Ka;(case Ja=>refine' pe_bltn (v:=V.ty "str") (hn:=zeo) (hd:=zen) znf Z.n_str bt_str rfl);case Ka=>rfl);case Ia=>rfl);case Fa=>intro _; rfl);case Da=>refine' pss_one ?La;case La=>refine' ps_ret (pq 0 (visL znb) zm4 zm5));case Ba=>refine' pss_cons ?Ma ?Na;(case Ma=>refine' ps_set (i:=1) (x:=Str.ofString "_law_row") ?Oa ?Pa ?Qa ?Ra ?Sa ?Ta;(case Oa=>exact SC.nd);(case Pa=>exact rfl);(case Qa=>exact(Or.inl zna));(case Ra=>exact pe_str);(case Sa=>rfl);case Ta=>exact .inl rfl);case Na=>refine' pss_cons ?Ua ?Va;(case Ua=>refine' ps_for PassesOwn.never rfl ?Wa ?Xa ?Ya ?Za;(case Wa=>refine' pi_enumT znd n_enumerate ?Ab;case Ab=>refine' pa_cons (pq 0 (visL znb) zm4 zm5) pa_nil ?Bb;case Bb=>rfl);(case Xa=>refine' pg_tup rfl ?Cb rfl rfl;case Cb=>refine' pgs_cons ?Db ?Eb ?Fb;(case Db=>refine' pg_name (i:=2) (x:=Str.ofString "_law_k") SC.nd rfl (Or.inl zm8) (.inl rfl));(case Eb=>refine' pgs_cons ?Gb pgs_nil ?Hb;(case Gb=>refine' pg_name (i:=3) (x:=Str.ofString "_law_one") SC.nd rfl (Or.inl zm9) (.inl rfl));case Hb=>rfl);case Fb=>rfl);(case Ya=>refine' pss_cons ?Ib ?Jb;(case Ib=>refine' ps_if ?Kb ?Lb pss_nil;(case Kb=>refine' pt_cmpR op_gt (pq 2 (visL zm8) zbf zbg) ?Mb (nomark _);case Mb=>exact pe_int);case Lb=>refine' pss_one ?Nb;case Nb=>refine' ps_set (i:=1) (x:=Str.ofString "_law_row") ?Ob ?Pb ?Qb ?Rb ?Sb ?Tb;(case Ob=>exact SC.nd);(case Pb=>exact rfl);(case Qb=>exact(Or.inl zna));(case Rb=>refine' pe_op op_add_str (pq 1 (visL zna) zm2 zm3) ?Ub;case Ub=>exact pe_str);(case Sb=>rfl);case Tb=>exact .inl rfl);case Jb=>refine' pss_one ?Vb;case Vb=>refine' ps_set (i:=1) (x:=Str.ofString "_law_row") ?Wb ?Xb ?Yb ?Zb ?Ac ?Bc;(case Wb=>exact SC.nd);(case Xb=>exact rfl);(case Yb=>exact(Or.inl zna));(case Zb=>refine' pe_op op_add_str (pq 1 (visL zna) zm2 zm3) ?Cc;case Cc=>refine' pe_def (hdb:=zm6) D_law_written (hr.mono (by omega)) znc ?Dc rfl rfl;case Dc=>refine' pa_cons (pq 3 (visL zm9) zm0 zm1) pa_nil ?Ec;case Ec=>rfl);(case Ac=>rfl);case Bc=>exact .inl rfl);case Za=>intro _; rfl);case Va=>refine' pss_one ?Fc;case Fc=>refine' ps_ret ?Gc;case Gc=>refine' pe_op op_add_str (pq 1 (visL zna) zm2 zm3) ?Hc;case Hc=>exact pe_str
  cases ht with
  | leaf x=>exact⟨_,rfl,_,_,_,rfl,.str _,kit_str1 K,true,rfl,ifT rfl ⟨_,rfl,by have:=q H (Same.refl _); rwa [wr] at this⟩⟩
  | node h r=>
   rename_i a xs ts
   have hd:dep (.node ts)=1+depA ts:=rfl
   rw [hd] at hn
   obtain⟨m,rfl⟩:∃ m,n=m+1:=⟨n-1,by omega⟩
   rw [wr_len] at hw
   have rl:=r.length
   refine⟨_,rfl,_,_,false,rfl,.tup h,rfl,false,rfl,iteF ?_⟩
   refine⟨_,rfl,a,xs,rfl,SqT.of h,?_⟩
   refine for_enumT (xs:=xs) (fun i σ H2=>∃ (v2 v3:Option V),σ=[some (.ref a),some (.str (acc ts i)),v2,v3]∧Same H H2) ⟨_,_,rfl,Same.refl _⟩ (fun i σ H2 _ ⟨_,_,_,z⟩=>SqT.of (z _ _ h)) ?_ ?_
   ·rintro i y σ H2 p hi ⟨v2,v3,rfl,s2⟩ hp
    obtain⟨t,ht,tt⟩:=r.get hi
    have dt:=depA_mem (List.mem_of_getElem? ht)
    have lt:=join_mem_le " " (ts.map wr) (wr t) (List.mem_map.mpr ⟨t,List.mem_of_getElem? ht,rfl⟩)
    have s3:=s2.trans (same_new hp (.tup [.int i,y]))
    refine⟨p,[.int i,y],rfl,SqT.of upd_same,rfl,?_⟩
    refine⟨_,_,rfl,_,_,rfl,rfl,?_⟩
    have go:∀ (z:Str),acc ts (i+1)=z++wr t→z.length≤1000004→tAsg
      (tOp (fun x y H Q=>∃ i j,x=V.str i∧y=V.str j∧i.length+j.length≤sizeLine∧Q (V.str (i++j)) H) (tVar 1) (tCall (spWr' (m+1)) [] E0 (tCons (tVar 3) tNil))) (gName 1)
      {nx:=fun σ H2=>∃ v2 v3,σ=[some (V.ref a),some (V.str (acc ts (i+1))),v2,v3]∧Same H H2,rt:=Q,bk:=tRet (tOp (fun x y H Q=>∃ i j,x=V.str i∧y=V.str j∧i.length+j.length≤sizeLine∧Q (V.str (i++j)) H) (tVar 1) (tC (V.str (Str.ofString ")")))) {nx:=fun x H'=>Q V.non H',rt:=Q},ct:=fun σ H2=>∃ v2 v3,σ=[some (V.ref a),some (V.str (acc ts (i+1))),v2,v3]∧Same H H2}
      [some (.ref a),some (.str z),some (.int i),some y] (upd H2 p (.tup [.int i,y])):=by
     intro z ez zl
     refine⟨_,rfl,_,rfl,?_⟩
     unfold tNil
     refine spWr'_of ⟨y,t,rfl,tup_keep (Few.Same.tups s3) tt,by omega,by omega,fun H5 s5=>?_⟩
     have al:=acc_len ts (i+1)
     rw [ez,len_app] at al
     exact⟨_,_,rfl,rfl,Nat.le_trans (show z.length+(wr t).length≤1000004 by omega) (by decide),_,_,by rw [ez]; rfl,s3.trans s5⟩
    have ai:=acc_len ts i
    have l1:(" ":Str).length=1:=rfl
    by_cases h0:0<i
    ·refine⟨_,rfl,_,_,rfl,rfl,_,rfl,ifT (by simp; omega) ?_⟩
     refine⟨_,rfl,_,_,rfl,rfl,Nat.le_trans (show (acc ts i).length+(" ":Str).length≤1000004 by omega) (by decide),?_⟩
     exact go _ (acc_s ht h0) (by rw [len_app]; omega)
    ·have : i=0:=by omega
     subst this
     refine⟨_,rfl,_,_,rfl,rfl,_,rfl,ifF (by simp) ?_⟩
     exact go _ (acc_1 ht) (by omega)
   ·rintro σ H2 ⟨v2,v3,rfl,s2⟩
    have el:(ts.map wr).take xs.length=ts.map wr:=List.take_of_length_le (by rw [List.length_map]; omega)
    have al:=acc_len ts xs.length
    have l2:(")":Str).length=1:=rfl
    refine⟨_,rfl,_,_,rfl,rfl,Nat.le_trans (show _+(")":Str).length≤1000004 by omega) (by decide),?_⟩
    have:=q H2 s2
    rw [wr_node] at this
    unfold acc
    rw [el]
    exact this
theorem ok_lw0 (F:FunAt K mg "_law_written" s_law_written ["_law_thing"]):Def P w K mg base "_law_written" 1 ["_law_thing"] (spWr' 0):=
 F.mk' (k:=0) zm7 (fun vs H Q E h=>False.elim h) fun f cdv A outer s H vs Q E hr h=>False.elim h
theorem ok_lw (F:FunAt K mg "_law_written" s_law_written ["_law_thing"]) (Z:Bl mg) (n_enumerate:mg "enumerate"=none):∀ n,Def P w K mg base "_law_written" (n+2) ["_law_thing"] (spWr n)
 | 0=>ok_lw_of F Z n_enumerate 0 (ok_lw0 F)
 | n+1=>ok_lw_of F Z n_enumerate (n+1) (ok_lw F Z n_enumerate n)
end
theorem zng:LD "_law_kind":=by decide +kernel
theorem znh:LS "_law_kind":=by decide +kernel
theorem zni:LD "_law_made":=by decide +kernel
theorem znj:LS "_law_made":=by decide +kernel
theorem znk:LD "_law_scope":=by decide +kernel
theorem znl:LS "_law_scope":=by decide +kernel
structure ScL (H:Hp) (a:Addr) (ps:List (Str×Str)):Prop where
 ex:∃ bs:List Addr,H a=some (.lst (bs.map V.ref))∧Paired (fun b q=>H b=some (.tup [.str q.1,.str q.2])) bs ps
def meant (ps:List (Str×Str)):Str→Option Str:=ps.foldl (fun S q=>scPut S q.1 q.2) fun _=>none
theorem paired_get {α β:Type} {F:α→β→Prop}:∀ {a:List α} {b:List β} {i:Nat} {x:α},Paired F a b→a[i]? = some x→∃ y,b[i]? = some y∧F x y
 | _,_,_,_,.nil,h=>by simp at h
 | _,_,0,_,.cons f _,h=>by simp at h; subst h; exact⟨_,rfl,f⟩
 | _,_,i+1,_,.cons _ r,h=>by simpa using paired_get (i:=i) r (by simpa using h)
theorem meant_take {ps:List (Str×Str)} {i:Nat} {q:Str×Str} (h:ps[i]? = some q):meant (ps.take (i+1))=scPut (meant (ps.take i)) q.1 q.2:=by
 unfold meant
 rw [List.take_succ,h,Option.toList_some,List.foldl_append]
 rfl
theorem key_putK {kvs:List (Key×V)} {k:Key} {v:V} {q:Key×V} (h:q∈putK kvs k v):q.1=k∨∃ r∈kvs,r.1=q.1:=by
 unfold putK at h
 split at h
 ·obtain⟨r,hr,e⟩:=List.mem_map.mp h
  refine .inr ⟨r,hr,?_⟩
  rw [← e]
  split <;> rfl
 ·rcases List.mem_append.mp h with h | h
  ·exact .inr ⟨q,h,rfl⟩
  ·rw [List.mem_singleton.mp h]; exact .inl rfl
def ScM (H:Hp) (d:Addr) (S:Str→Option Str) (n:Nat):Prop:=∃ kvs:List (Key×V),H d=some (.dK kvs)∧kvs.length≤n∧(∀ x:Str,valV kvs (.inr x)=(S x).map V.str)∧∀ q∈kvs,∃ x k,q.1=.inr x∧S x=some k
theorem ScM.put {H:Hp} {d:Addr} {S:Str→Option Str} {n:Nat} {kvs:List (Key×V)} (e2:∀ x:Str,valV kvs (.inr x)=(S x).map V.str) (e3:∀ q∈kvs,∃ x k,q.1=.inr x∧S x=some k) (el:kvs.length≤n) (xn kd:Str):ScM (upd H d (.dK (putK kvs (.inr xn) (.str kd)))) d (scPut S xn kd) (n+1):=by
 refine⟨_,upd_same,Nat.le_trans (length_putK _ _ _) (by omega),fun y=>?_,fun q hq=>?_⟩
 ·rw [valV_put]
  unfold scPut
  by_cases hy:y=xn
  ·rw [if_pos (by rw [hy]),if_pos hy]; rfl
  ·rw [if_neg (fun z=>hy (Sum.inr.inj z)),if_neg hy]; exact e2 y
 ·rcases key_putK hq with e | ⟨r,hr,e⟩
  ·exact⟨xn,kd,e,by unfold scPut; rw [if_pos rfl]⟩
  ·obtain⟨x,k,ex,ek⟩:=e3 r hr
   rw [← e]
   by_cases hy:x=xn
   ·exact⟨x,kd,ex,by unfold scPut; rw [if_pos hy]⟩
   ·exact⟨x,k,ex,by unfold scPut; rw [if_neg hy]; exact ek⟩
section
variable {P:Program} {w:World} {K:PySem.W.Frag} {mg:Str→Option Value} {base:Heap}
abbrev s_law_meant:Stmt:=top 43
theorem znm:FnScope ["_law_scope","_law_made","_law_name","_law_kind"] ["_law_scope"] (defScope s_law_meant):=⟨rfl,rfl,rfl,by decide +kernel,rfl,by decide +kernel,by decide +kernel⟩
theorem znn:LN .local s_law_meant "_law_kind":=by decide +kernel
theorem zno:LN .local s_law_meant "_law_made":=by decide +kernel
theorem znp:LN .local s_law_meant "_law_name":=by decide +kernel
theorem znq:LN .local s_law_meant "_law_scope":=by decide +kernel
def spMeant:Sp:=fun vs H Q _=>∃ (a:Addr) (ps:List (Str×Str)),vs=[.ref a]∧ScL H a ps∧ps.length≤3∧∀ d H',ScM H' d (meant ps) ps.length→Same H H'→H d=none→Q (.ref d) H'
theorem ok_meant (F:FunAt K mg "_law_meant" s_law_meant ["_law_scope"]) (Z:Bl mg):Def P w K mg base "_law_meant" 1 ["_law_scope"] spMeant:=by
 have SC:=znm
 refine F.mk' (k:=0) znm (fun vs H Q E h=>?_) (fun f cdv A outer s H vs Q E hr h=>?_)
 ·obtain⟨a,ps,rfl,_⟩:=h
  rfl
 ·obtain⟨a,ps,rfl,⟨bs,ha,hp⟩,hl,q⟩:=h
  refine'⟨_,?derivation,?_⟩
  case derivation=>refine' pss_cons ?Aa ?Ba;(case Aa=>refine' ps_set (i:=1) (x:=Str.ofString "_law_made") ?Ca ?Da ?Ea ?Fa ?Ga ?Ha;(case Ca=>exact SC.nd);(case Da=>exact rfl);(case Ea=>exact(Or.inl zno));(case Fa=>exact pe_dnewK);(case Ga=>rfl);case Ha=>exact .inl rfl);case Ba=>refine' pss_cons ?Ia ?Ja;(case Ia=>refine' ps_for PassesOwn.never rfl ?Ka ?La ?Ma ?Na;(case Ka=>refine' pi_list (pq 0 (visL znq) znk znl));(case La=>refine' pg_tup rfl ?Oa rfl rfl;case Oa=>refine' pgs_cons ?Pa ?Qa ?Ra;(case Pa=>refine' pg_name (i:=2) (x:=Str.ofString "_law_name") SC.nd rfl (Or.inl znp) (.inl rfl));(case Qa=>refine' pgs_cons ?Sa pgs_nil ?Ta;(case Sa=>refine' pg_name (i:=3) (x:=Str.ofString "_law_kind") SC.nd rfl (Or.inl znn) (.inl rfl));case Ta=>rfl);case Ra=>rfl);(case Ma=>refine' pss_one ?Ua;case Ua=>refine' ps_dput (hu_of hr) (pq 1 (visL zno) zni znj) (pq 2 (visL znp) zcy zcz) (pq 3 (visL znn) zng znh) rfl);case Na=>intro _; rfl);case Ja=>refine' pss_one ?Va;case Va=>refine' ps_ret (pq 1 (visL zno) zni znj)
  refine fun d hd=>?_
  have s1:=same_new hd (.dK [])
  have pl:=Paired.length hp
  refine⟨_,rfl,a,rfl,⟨_,SqL.of (s1 _ _ ha)⟩,?_⟩
  refine for_list (K:=K) (a:=a) (xs:=bs.map V.ref) (fun i σ H2=>∃ (v2 v3:Option V),σ=[some (.ref a),some (.ref d),v2,v3]∧Same H H2∧ScM H2 d (meant (ps.take i)) i)
   ⟨_,_,rfl,s1,[],upd_same,Nat.le_refl _,fun _=>rfl,fun _ z=>nomatch z⟩ (fun i σ H2 _ ⟨_,_,_,y,_⟩=>SqL.of (y _ _ ha)) ?_ ?_
  ·rintro i y σ H2 hi ⟨v2,v3,rfl,s2,kvs,e1,el,e2,e3⟩
   rw [List.getElem?_map] at hi
   obtain⟨b,hb,rfl⟩:=Option.map_eq_some_iff.mp hi
   obtain⟨pr,hpr,hat⟩:=paired_get hp hb
   have hil:i<ps.length:=(List.getElem?_eq_some_iff.mp hpr).1
   refine⟨b,_,rfl,SqT.of (s2 _ _ hat),rfl,_,_,rfl,_,_,rfl,rfl,?_⟩
   refine⟨_,rfl,_,rfl,_,rfl,d,_,rfl,DPut.k (k:=.inr pr.1) e1 (Nat.lt_of_le_of_lt (show kvs.length≤100 by omega) (by decide)),?_⟩
   refine⟨_,_,rfl,fun c o e=>by rw [upd_ne (ne_of_none e hd)]; exact s2 c o e,?_⟩
   rw [meant_take hpr]
   exact ScM.put e2 e3 el _ _
  ·rintro σ H2 ⟨v2,v3,rfl,s2,m2⟩
   rw [List.length_map,pl,List.take_length] at m2
   exact⟨_,rfl,q d H2 m2 s2 hd⟩
end
mutual
inductive Lk:Tr→PyData→Prop where
 | leaf (x:Str):Lk (.leaf x) (.str x)
 | lst {ts:List Tr} {ds:List PyData}:LkA ts ds→Lk (.node ts) (.list ds)
 | tup {ts:List Tr} {ds:List PyData}:LkA ts ds→Lk (.node ts) (.tuple ds)
inductive LkA:List Tr→List PyData→Prop where
 | nil:LkA [] []
 | cons {t:Tr} {d:PyData} {ts:List Tr} {ds:List PyData}:Lk t d→LkA ts ds→LkA (t::ts) (d::ds)
end
mutual
def dT:Tr→PyData
 | .leaf x=>.str x
 | .node ts=>.tuple (dTA ts)
def dTA:List Tr→List PyData
 | []=>[]
 | t::ts=>dT t::dTA ts
end
mutual
theorem mix_rds {H:Hp}:∀ {v:V} {t:Tr},Mix H v t→∃ d,RdsV H v d∧Lk t d
 | _,_,.leaf x=>⟨_,.str x,.leaf x⟩
 | _,_,.node (.inl h) r=>let ⟨ds,a,b⟩:=mixA_rds r; ⟨_,.lst h a,.lst b⟩
 | _,_,.node (.inr h) r=>let ⟨ds,a,b⟩:=mixA_rds r; ⟨_,.tup h a,.tup b⟩
theorem mixA_rds {H:Hp}:∀ {v:List V} {t:List Tr},MixA H v t→∃ d,RdsA H v d∧LkA t d
 | _,_,.nil=>⟨_,.nil,.nil⟩
 | _,_,.cons h r=>let ⟨_,a,b⟩:=mix_rds h; let ⟨_,c,d⟩:=mixA_rds r; ⟨_,.cons a c,.cons b d⟩
end
mutual
theorem tup_rds {H:Hp}:∀ {v:V} {t:Tr},Tup H v t→RdsV H v (dT t)
 | _,_,.leaf x=>by rw [dT]; exact .str x
 | _,_,.node h r=>by rw [dT]; exact .tup h (tupA_rds r)
theorem tupA_rds {H:Hp}:∀ {v:List V} {t:List Tr},TupA H v t→RdsA H v (dTA t)
 | _,_,.nil=>by rw [dTA]; exact .nil
 | _,_,.cons h r=>by rw [dTA]; exact .cons (tup_rds h) (tupA_rds r)
end
mutual
theorem dT_lk:∀ t:Tr,Lk t (dT t)
 | .leaf x=>by rw [dT]; exact .leaf x
 | .node ts=>by rw [dT]; exact .tup (dTA_lk ts)
theorem dTA_lk:∀ t:List Tr,LkA t (dTA t)
 | []=>by rw [dTA]; exact .nil
 | t::ts=>by rw [dTA]; exact .cons (dT_lk t) (dTA_lk ts)
end
mutual
theorem rds_same {H H':Hp} (s:Same H H'):∀ {v:V} {d:PyData},RdsV H v d→RdsV H' v d
 | _,_,.non=>.non
 | _,_,.bl b=>.bl b
 | _,_,.int i=>.int i
 | _,_,.str x=>.str x
 | _,_,.lst e r=>.lst (s _ _ e) (rdsA_same s r)
 | _,_,.tup e r=>.tup (s _ _ e) (rdsA_same s r)
theorem rdsA_same {H H':Hp} (s:Same H H'):∀ {v:List V} {d:List PyData},RdsA H v d→RdsA H' v d
 | _,_,.nil=>.nil
 | _,_,.cons h r=>.cons (rds_same s h) (rdsA_same s r)
end
mutual
theorem znr:∀ {t:Tr} {d:PyData},Lk t d→d.showable=true
 | _,_,.leaf x=>by simp only [PyData.showable]
 | _,_,.lst r=>by simp only [PyData.showable]; exact lkA_showable r
 | _,_,.tup r=>by simp only [PyData.showable]; exact lkA_showable r
theorem lkA_showable:∀ {t:List Tr} {d:List PyData},LkA t d→PyData.showableAll d=true
 | _,_,.nil=>by simp only [PyData.showableAll]
 | _,_,.cons h r=>by simp only [PyData.showableAll,znr h,lkA_showable r,Bool.and_self]
end
mutual
theorem zns:∀ {t:Tr} {d:PyData},Lk t d→d.hasDict=false
 | _,_,.leaf x=>by simp only [PyData.hasDict]
 | _,_,.lst r=>by simp only [PyData.hasDict]; exact lkA_noDict r
 | _,_,.tup r=>by simp only [PyData.hasDict]; exact lkA_noDict r
theorem lkA_noDict:∀ {t:List Tr} {d:List PyData},LkA t d→PyData.hasDictAll d=false
 | _,_,.nil=>by simp only [PyData.hasDictAll]
 | _,_,.cons h r=>by simp only [PyData.hasDictAll,zns h,lkA_noDict r,Bool.or_self]
end
mutual
theorem znt:∀ {t:Tr} {d:PyData},Lk t d→d.depth=dep t
 | _,_,.leaf x=>by rw [PyData.depth,dep]
 | _,_,.lst r=>by rw [PyData.depth,dep,lkA_depth r,Nat.add_comm]
 | _,_,.tup r=>by rw [PyData.depth,dep,lkA_depth r,Nat.add_comm]
theorem lkA_depth:∀ {t:List Tr} {d:List PyData},LkA t d→PyData.depthAll d=depA t
 | _,_,.nil=>by rw [PyData.depthAll,depA]
 | _,_,.cons h r=>by rw [PyData.depthAll,depA,znt h,lkA_depth r]
end
theorem znu:LD "_law_meant":=by decide +kernel
theorem znv:LD "_law_meant_here":=by decide +kernel
theorem znw:LS "_law_meant_here":=by decide +kernel
section
variable {P:Program} {w:World} {K:PySem.W.Frag} {mg:Str→Option Value} {base:Heap}
abbrev s_law_variable:Stmt:=top 44
theorem znx:FnScope ["_law_pot_here","_law_scope","_law_kind","_law_meant_here","_law_names"] ["_law_pot_here","_law_scope","_law_kind"] (defScope s_law_variable):=⟨rfl,rfl,rfl,by decide +kernel,rfl,by decide +kernel,by decide +kernel⟩
theorem zny:LN .globalImplicit s_law_variable "_law_draw":=by decide +kernel
theorem znz:LN .globalImplicit s_law_variable "_law_meant":=by decide +kernel
theorem zn0:LN .cell s_law_variable "_law_meant_here":=by decide +kernel
theorem zn1:LN .local s_law_variable "_law_names":=by decide +kernel
theorem zn2:LN .local s_law_variable "_law_pot_here":=by decide +kernel
theorem zn3:LN .local s_law_variable "_law_scope":=by decide +kernel
theorem zn4:LN .globalImplicit s_law_variable "len":=by decide +kernel
abbrev QS11:Scope:={kind:=PySem.ScopeKind.function,names:=[ (PySem.Str.ofString ".0",PySem.NameKind.local),(PySem.Str.ofString "_law_name",PySem.NameKind.local),(PySem.Str.ofString "_law_kind",PySem.NameKind.free),(PySem.Str.ofString "_law_meant_here",PySem.NameKind.free)],isGenerator:=false,isCoroutine:=false,more:=[]:PySem.Scope}
theorem zn5:CompSc 1 ["_law_name","_law_pot_here","_law_scope","_law_kind","_law_meant_here","_law_names"] ["_law_pot_here","_law_scope","_law_kind","_law_meant_here","_law_names"] (defScope s_law_variable) QS11:=⟨rfl,by decide +kernel,by decide +kernel,by decide +kernel,by decide +kernel,rfl,by decide +kernel⟩
theorem zn6:LC .free QS11 "_law_kind":=by decide +kernel
theorem zn7:LC .free QS11 "_law_meant_here":=by decide +kernel
theorem zn8:LC .local QS11 "_law_name":=by decide +kernel
def spVar:Sp:=fun vs H Q _=>∃ (p a:Addr) (ps:List (Str×Str)) (kd:Str),vs=[.ref p,.ref a,.str kd]∧PotAt H p∧ScL H a ps∧ps.length≤3∧∀ v H',(v=.non∨∃ x,v=.str x∧meant ps x=some kd)→Went p H H'→Q v H'
theorem ok_var (F:FunAt K mg "_law_variable" s_law_variable ["_law_pot_here","_law_scope","_law_kind"]) (Z:Bl mg) (D_law_draw:Def P w K mg base "_law_draw" 1 ["_law_pot_here","_law_many"] spDraw) (D_law_meant:Def P w K mg base "_law_meant" 1 ["_law_scope"] spMeant):Def P w K mg base "_law_variable" 2 ["_law_pot_here","_law_scope","_law_kind"] spVar:=by
 have SC:=znx
 refine F.mk' (k:=1) znx (fun vs H Q E h=>?_) (fun f cdv A outer s H vs Q E hr h=>?_)
 ·obtain⟨p,a,ps,kd,rfl,_⟩:=h
  rfl
 ·obtain⟨p,a,ps,kd,rfl,hp,hs,hl,q⟩:=h
  refine'⟨_,?derivation,?_⟩
  case derivation=>refine' pss_cons ?Aa ?Ba;(case Aa=>refine' ps_set (i:=3) (x:=Str.ofString "_law_meant_here") ?Ca ?Da ?Ea ?Fa ?Ga ?Ha;(case Ca=>exact SC.nd);(case Da=>exact rfl);(case Ea=>exact(Or.inr zn0));(case Fa=>refine' pe_def (hdb:=znu) D_law_meant (hr.mono (by omega)) znz ?Ia rfl rfl;case Ia=>refine' pa_cons (pq 1 (visL zn3) znk znl) pa_nil ?Ja;case Ja=>rfl);(case Ga=>rfl);case Ha=>exact .inl rfl);case Ba=>refine' pss_cons ?Ka ?La;(case Ka=>refine' ps_frz ?Ma;case Ma=>refine' ps_setCompG (i:=4) (x:=Str.ofString "_law_names") SC.nd rfl (Or.inl zn1) rfl framed_of rfl zn5.at ?Na ?Oa ?Pa ?Qa ?Ra (.inl rfl);(case Na=>refine' pi_keys (pq 3 (visC zn0) znv znw));(case Oa=>intro _ _ _ _ _;refine' pg_name (i:=0) zn5.nd rfl (locO zn8) (.inr (lookup_relabel_local zn8)));(case Pa=>intro _ _ _ _ _;refine' pt_cmpR op_eq ?Sa (pq 3 (visF zn6) zng znh) (nomark _);case Sa=>refine' pe_dget (hu_of hr) (pq 4 (visF zn7) znv znw) (pq 0 (visO zn8) zcy zcz) ?Ta;case Ta=>intro _ _;exact rfl);(case Qa=>intro _ _ _ _ _;exact(pq 0 (visO zn8) zcy zcz));case Ra=>intro _; rfl);case La=>refine' pss_cons ?Ua ?Va;(case Ua=>refine' ps_if ?Wa ?Xa pss_nil;(case Wa=>refine' pt_cmpR (op_eqL0 hr.units0) (pq 4 (visL zn1) zc0 zc1) ?Ya (nomark _);case Ya=>refine' pe_lst pa_nil);case Xa=>refine' pss_one ?Za;case Za=>refine' ps_ret ?Ab;case Ab=>exact pe_non);case Va=>refine' pss_one ?Bb;case Bb=>refine' ps_ret ?Cb;case Cb=>refine' pe_ix ix_list (pq 4 (visL zn1) zc0 zc1) ?Db ?Eb;(case Db=>refine' pe_def (hdb:=zbe) D_law_draw (hr.mono (by omega)) zny ?Fb rfl rfl;case Fb=>refine' pa_cons (pq 0 (visL zn2) zbn zbo) ?Gb ?Hb;(case Gb=>refine' pa_cons ?Ib pa_nil ?Jb;(case Ib=>refine' pe_callB (hn:=zbw) (hdb:=zbv) call_len_seq zn4 Z.n_len bt_len ?Kb rfl rfl;case Kb=>refine' pa_cons (pq 4 (visL zn1) zc0 zc1) pa_nil ?Lb;case Lb=>rfl);case Jb=>rfl);case Hb=>rfl);case Eb=>intro _ _;exact rfl
  refine⟨_,rfl,a,ps,rfl,hs,hl,fun d H1 hm s1 hd=>?_⟩
  obtain⟨kvs,e1,el,e2,e3⟩:=hm
  refine⟨d,kvs,e1,fun ob=>?_⟩
  have lz:kvs.length≤sizeLine:=Nat.le_trans (show kvs.length≤3 by omega) (by decide)
  generalize hF:upd H1 d (.frz ob (.dK kvs))=HF
  have eF:HF d=some (.frz ob (.dK kvs)):=by rw [← hF]; exact upd_same
  refine⟨_,rfl,d,ob,kvs,rfl,eF,fun cl C ex s0 Hc=>?_⟩
  refine⟨fun i m ys σ' H2=>H2=HF∧m=kvs.length-i∧i≤kvs.length∧ys.length≤i∧(∃ v0,σ'=[v0,some (.ref p),some (.ref a),some (.str kd),some (.ref d),none])∧∀ y∈ys,∃ x,y=.str x∧meant ps x=some kd,⟨_,rfl,rfl,Nat.zero_le _,Nat.le_refl _,⟨_,rfl⟩,fun _ z=>nomatch z⟩,?_⟩
  rintro i m ys σ' H2 ⟨rfl,rfl,hi,hy,⟨v0,rfl⟩,hall⟩
  by_cases hlt:i<kvs.length
  ·refine .inr ⟨⟨kvs,eF,hlt⟩,by omega,fun x H' hyl=>?_⟩
   obtain⟨rfl,hx⟩:=hyl
   obtain⟨kv,ek,rfl⟩:=hx kvs eF
   obtain⟨z,k,ez,hz⟩:=e3 kv (List.mem_of_getElem? ek)
   rw [ez]
   have hv:valV kvs (.inr z)=some (.str k):=by rw [e2,hz]; rfl
   refine⟨_,rfl,_,rfl,d,.str k,rfl,?_,_,rfl,rfl,_,rfl,?_⟩
   ·rw [← hv]; exact .inl ⟨kvs,.inr z,.inr ⟨ob,eF⟩,rfl,rfl⟩
   ·by_cases hk:k=kd
    ·subst hk
     refine ifT (by simp) ⟨fun v H3=>v=.str z∧H3=H',⟨_,rfl,rfl,rfl⟩,?_⟩
     rintro v H3 ⟨rfl,rfl⟩
     refine⟨_,?_,rfl,rfl,hlt,by rw [List.length_append,List.length_singleton]; omega,⟨_,rfl⟩,fun y hy'=>?_⟩
     ·omega
     ·rcases List.mem_append.mp hy' with h | h
      ·exact hall y h
      ·rw [List.mem_singleton.mp h]; exact⟨z,rfl,hz⟩
    ·refine ifF (by simp [hk]) ⟨_,?_,rfl,rfl,hlt,by omega,⟨_,rfl⟩,hall⟩
     omega
  ·obtain rfl:i=kvs.length:=by omega
   refine .inl ⟨⟨kvs,eF,rfl⟩,fun D hD=>?_⟩
   have nD:D≠d:=Ne.symm (ne_of_none eF hD)
   have hD1:H1 D=none:=by rw [← hF,upd_ne nD] at hD; exact hD
   refine⟨by rw [upd_ne (Ne.symm nD)]; exact eF,?_⟩
   generalize hG:upd (upd H2 D (.lst ys)) d (.dK kvs)=HG
   have gD:HG D=some (.lst ys):=by rw [← hG,upd_ne nD]; exact upd_same
   have sG:Same H1 HG:=fun b o e=>by
    by_cases hb:b=d
    ·subst hb
     rw [e1] at e
     rw [← hG,← e]; exact upd_same
    ·rw [← hG,upd_ne hb,upd_ne (ne_of_none e hD1),← hF,upd_ne hb]; exact e
   refine⟨_,rfl,Nat.zero_le _,fun l hl'=>⟨D,l,ys,rfl,rfl,SqL.of (by rw [upd_ne (ne_of_none gD hl')]; exact gD),SqL.of upd_same,_,rfl,?_⟩⟩
   have s2:Same H (upd HG l (.lst [])):=(s1.trans sG).trans (same_new hl' _)
   have wt:Went p H (upd HG l (.lst [])):=⟨hp.keep s2,s2.x⟩
   cases ys with
   | nil=>exact ifT rfl (q _ _ (.inl rfl) wt)
   | cons y0 yr=>
    refine ifF (by simp) ?_
    have gD2:upd HG l (.lst []) D=some (.lst (y0::yr)):=by rw [upd_ne (ne_of_none gD hl')]; exact gD
    have ply:(y0::yr).length≤3:=by omega
    refine⟨_,rfl,_,rfl,_,rfl,D,_,rfl,.inl (SqL.of gD2),?_⟩
    refine⟨p,_,rfl,wt.pot,by simp <;> omega,by simp at ply ⊢ <;> omega,fun r H3 r0 r1 p3 s3=>?_⟩
    have nDp:D≠p:=fun z=>by
     have:=s1.trans sG
     obtain⟨o,e⟩:=hp.some
     have e':=s1 _ _ e
     rw [← z,hD1] at e'; cases e'
    have hr1:r.toNat<(y0::yr).length:=by omega
    refine⟨D,_,r,(y0::yr)[r.toNat],rfl,rfl,SqL.of (s3 _ _ nDp gD2),atI_int r0 (by simp [hr1]),?_⟩
    obtain⟨x,ex,hx⟩:=hall _ (List.getElem_mem hr1)
    exact q _ _ (.inr ⟨x,ex,hx⟩) (wt.mk1 p3 s3)
end
mutual
def sz:Tr→Nat
 | .leaf x=>x.length
 | .node ts=>szA ts+3
def szA:List Tr→Nat
 | []=>0
 | t::ts=>sz t+1+szA ts
end
mutual
def low:Tr→Prop
 | .leaf x=>∀ c∈x.cps.toList,c<16 ^ 8
 | .node ts=>lowA ts
def lowA:List Tr→Prop
 | []=>True
 | t::ts=>low t∧lowA ts
end
structure Fit (D W:Nat) (t:Tr):Prop where
 dp:dep t≤D
 wt:sz t≤W
 lw:low t
structure FitA (D W:Nat) (t:List Tr):Prop where
 dp:depA t≤D
 wt:szA t≤W
 lw:lowA t
theorem Fit.mono {D D' W W':Nat} {t:Tr} (h:Fit D W t) (h1:D≤D') (h2:W≤W'):Fit D' W' t:=⟨Nat.le_trans h.dp h1,Nat.le_trans h.wt h2,h.lw⟩
theorem FitA.mono {D D' W W':Nat} {t:List Tr} (h:FitA D W t) (h1:D≤D') (h2:W≤W'):FitA D' W' t:=⟨Nat.le_trans h.dp h1,Nat.le_trans h.wt h2,h.lw⟩
theorem FitA.nil {D:Nat}:FitA D 0 []:=⟨Nat.zero_le _,Nat.le_refl _,trivial⟩
theorem FitA.cons {D W W':Nat} {t:Tr} {ts:List Tr} (h:Fit D W t) (r:FitA D W' ts):FitA D (W+1+W') (t::ts):=⟨Nat.max_le.mpr ⟨h.dp,r.dp⟩,by rw [szA]; have:=h.wt; have:=r.wt; omega,h.lw,r.lw⟩
theorem FitA.all {D W n:Nat}:∀ {ts:List Tr},(∀ t∈ts,Fit D W t)→ts.length≤n→FitA D (n*(W+1)) ts
 | [],_,_=>FitA.nil.mono (Nat.le_refl _) (Nat.zero_le _)
 | t::ts,h,hn=>by
  rw [List.length_cons] at hn
  obtain⟨m,rfl⟩:∃ m,n=m+1:=⟨n-1,by omega⟩
  refine(FitA.cons (h t List.mem_cons_self) (FitA.all (n:=m) (fun x hx=>h x (List.mem_cons_of_mem _ hx)) (by omega))).mono (Nat.le_refl _) ?_
  rw [Nat.add_mul,Nat.one_mul]
  omega
theorem Fit.node {D W:Nat} {ts:List Tr} (h:FitA D W ts):Fit (D+1) (W+3) (.node ts):=⟨by rw [dep]; have:=h.dp; omega,by rw [sz]; have:=h.wt; omega,h.lw⟩
theorem Fit.nm {z:Str} (h:isNm z):Fit 0 12 (.leaf z):=⟨Nat.le_refl _,by rw [sz,str_len]; exact h.2.1,fun c hc=>by have:=h.2.2 c hc; omega⟩
theorem Fit.wd:∀ z∈[("=":Str),"not","and","or","all","some"],Fit 0 4 (.leaf z):=by
 have : ∀ z∈[("=":Str),"not","and","or","all","some"],z.length≤4∧∀ c∈z.cps.toList,c<16 ^ 8:=by decide +kernel
 exact fun z hz=>⟨Nat.le_refl _,(this z hz).1,(this z hz).2⟩
theorem join_le:∀ l:List Str,(Str.join " " l).length≤(l.map fun x=>x.length+1).sum
 | []=>Nat.le_refl _
 | [a]=>by
  show a.length≤a.length+1+0
  omega
 | a::b::r=>by
  have ih:=join_le (b::r)
  have e:Str.join " " (a::b::r)=a++" "++Str.join " " (b::r):=by
   apply str_ext'
   have:=join_app (A:=[a]) (B:=b::r) (by simp) (by simp)
   rw [app_list,app_list,List.append_assoc]
   exact this.trans rfl
  rw [e,len_app,len_app,List.map_cons,List.sum_cons]
  have : (" ":Str).length=1:=rfl
  omega
mutual
theorem wr_sz:∀ t:Tr,(wr t).length≤sz t
 | .leaf x=>by rw [wr,sz]; exact Nat.le_refl _
 | .node ts=>by
  rw [wr_len,sz]
  have:=join_le (ts.map wr)
  have:=wrA_sz ts
  omega
theorem wrA_sz:∀ ts:List Tr,((ts.map wr).map fun x=>x.length+1).sum≤szA ts
 | []=>Nat.le_refl _
 | t::ts=>by
  rw [List.map_cons,List.map_cons,List.sum_cons,szA]
  have:=wr_sz t
  have:=wrA_sz ts
  omega
end
mutual
theorem zn9:∀ {t:Tr} {d:PyData},Lk t d→d.weight≤sz t
 | _,_,.leaf x=>by rw [PyData.weight,sz]; exact Nat.le_refl _
 | _,_,.lst r=>by rw [PyData.weight,sz]; have:=lkA_wt r; omega
 | _,_,.tup r=>by rw [PyData.weight,sz]; have:=lkA_wt r; omega
theorem lkA_wt:∀ {t:List Tr} {d:List PyData},LkA t d→PyData.weightAll d≤szA t
 | _,_,.nil=>by rw [PyData.weightAll,szA]; exact Nat.le_refl _
 | _,_,.cons h r=>by rw [PyData.weightAll,szA]; have:=zn9 h; have:=lkA_wt r; omega
end
mutual
theorem zoa:∀ {t:Tr} {d:PyData},Lk t d→low t→d.leavesShort 8=true
 | _,_,.leaf x,l=>by
  simp only [PyData.leavesShort,List.all_eq_true,decide_eq_true_eq]
  exact l
 | _,_,.lst r,l=>by simp only [PyData.leavesShort]; exact lkA_low r l
 | _,_,.tup r,l=>by simp only [PyData.leavesShort]; exact lkA_low r l
theorem lkA_low:∀ {t:List Tr} {d:List PyData},LkA t d→lowA t→PyData.leavesShortAll 8 d=true
 | _,_,.nil,_=>by simp only [PyData.leavesShortAll]
 | _,_,.cons h r,l=>by simp only [PyData.leavesShortAll,zoa h l.1,lkA_low r l.2,Bool.and_self]
end
theorem Fit.shows {D W:Nat} {t:Tr} {d:PyData} (h:Fit D W t) (l:Lk t d) (hD:D≤60) (hW:W≤2 ^ 20):d.showable=true∧d.hasDict=false∧d.depth≤60∧d.shown.length≤sizeLine:=
 ⟨znr l,zns l,by rw [znt l]; exact Nat.le_trans h.dp hD,PyData.shown_fits (B:=8) (by decide) (by decide) (zoa l h.lw) (Nat.le_trans (Nat.le_trans (zn9 l) h.wt) hW)⟩
abbrev BkAt (H:Hp) (p b:Addr) (ks:List Str) (ts:List TieR) (fs:List FunR):Prop:=RdV (fun a=>a≠p) H (.ref b) (bookL ks ts fs)
theorem RdV.went {p:Addr} {H H':Hp} {v:V} {d:PyData} (h:RdV (fun a=>a≠p) H v d) (s:SameX p H H'):RdV (fun a=>a≠p) H' v d:=h.mono (fun _ z=>z) fun a o z e=>s a o z e
theorem BkAt.open {H:Hp} {p b:Addr} {ks:List Str} {ts:List TieR} {fs:List FunR} (h:BkAt H p b ks ts fs):∃ k t f tv fv,H b=some (.tup [.ref k,.ref t,.ref f])∧k≠p∧H k=some (.lst (ks.map V.str))∧t≠p∧H t=some (.lst tv)∧RdA (fun a=>a≠p) H tv (ts.map tieL)∧f≠p∧H f=some (.lst fv)∧RdA (fun a=>a≠p) H fv (fs.map funL):=by
 obtain⟨_,xs,e,_,h1,h2⟩:=RdV.tuple_inv h
 cases e
 obtain⟨x,y,z,rfl,hx,hy,hz⟩:=h2.three
 obtain⟨k,kx,rfl,nk,h3,h4⟩:=hx.list_inv
 obtain rfl:=h4.strs_inv
 obtain⟨t,tx,rfl,nt,h5,h6⟩:=hy.list_inv
 obtain⟨f,fx,rfl,nf,h7,h8⟩:=hz.list_inv
 exact⟨k,t,f,tx,fx,h1,nk,h3,nt,h5,h6,nf,h7,h8⟩
theorem pot_ne {H:Hp} {p a:Addr} {o:HO} (hp:PotAt H p) (e:H a=some o) (n:∀ x y z:Int,o≠.lst [.int x,.int y,.int z]):a≠p:=by
 rintro rfl
 obtain⟨x,y,z,e',_⟩:=hp
 rw [e] at e'
 exact n x y z (Option.some.inj e')
theorem pot_tups {p:Addr} {H H':Hp} (h:PotAt H p) (s:SameX p H H'):Tups H H':=fun a xs e=>s a _ (pot_ne h e (fun _ _ _ z=>nomatch z)) e
theorem ScL.went {H H':Hp} {p a:Addr} {ps:List (Str×Str)} (h:ScL H a ps) (hp:PotAt H p) (s:SameX p H H'):ScL H' a ps:=by
 obtain⟨bs,e,r⟩:=h.ex
 refine⟨bs,s _ _ (pot_ne hp e fun x y z q=>?_) e,Paired.mapP r fun b q z=>pot_tups hp s _ _ z⟩
 cases bs with
 | nil=>injection q with q; cases q
 | cons b r=>injection q with q; injection q with q; cases q
theorem meant_mem {x k:Str} {ps:List (Str×Str)} (h:meant ps x=some k):∃ q∈ps,q=(x,k):=by
 have : ∀ (ps:List (Str×Str)) (S:Str→Option Str),(ps.foldl (fun S q=>scPut S q.1 q.2) S) x=some k→S x=some k∨∃ q∈ps,q=(x,k):=by
  intro ps
  induction ps with
  | nil=>exact fun S h=>.inl h
  | cons q r ih=>
   intro S h
   rcases ih _ h with h | ⟨q',hq,e⟩
   ·have h:(if x=q.1 then some q.2 else S x)=some k:=h
    by_cases hx:x=q.1
    ·rw [if_pos hx] at h
     exact .inr ⟨q,List.mem_cons_self,by rw [hx,← Option.some.inj h]⟩
    ·rw [if_neg hx] at h; exact .inl h
   ·exact .inr ⟨q',List.mem_cons_of_mem _ hq,e⟩
 rcases this ps _ h with z | z
 ·cases z
 ·exact z
theorem meant_snoc (ps:List (Str×Str)) (x k:Str):meant (ps++[(x,k)])=scPut (meant ps) x k:=by
 unfold meant
 rw [List.foldl_append]
 rfl
theorem zob:LD "_law_book_here":=by decide +kernel
theorem zoc:LS "_law_book_here":=by decide +kernel
theorem zod:LD "_law_deep":=by decide +kernel
theorem zoe:LS "_law_deep":=by decide +kernel
theorem zof:LD "_law_function":=by decide +kernel
theorem zog:LS "_law_function":=by decide +kernel
theorem zoh:LD "_law_place":=by decide +kernel
theorem zoi:LS "_law_place":=by decide +kernel
theorem zoj:LD "_law_some":=by decide +kernel
theorem zok:LS "_law_some":=by decide +kernel
theorem zol:LD "_law_term":=by decide +kernel
theorem zom:LD "_law_terms":=by decide +kernel
theorem zon:LS "_law_terms":=by decide +kernel
theorem zoo:LD "_law_variable":=by decide +kernel
theorem zop:LD "_law_variable_here":=by decide +kernel
theorem zoq:LS "_law_variable_here":=by decide +kernel
def bT:Nat→Nat
 | 0=>12
 | n+1=>18+2*bT n
theorem bT_12:∀ n,12≤bT n
 | 0=>Nat.le_refl _
 | n+1=>by rw [bT]; have:=bT_12 n; omega
theorem funL_open {p:Addr} {H:Hp} {v:V} {g:FunR} (h:RdV (fun a=>a≠p) H v (funL g)):∃ q pl,v=.ref q∧H q=some (.tup [.str g.nm,.ref pl,.str g.kd])∧pl≠p∧H pl=some (.lst (g.ps.map V.str)):=by
 obtain⟨q1,qx,rfl,_,h1,h2⟩:=RdV.tuple_inv h
 obtain⟨u,v,x,rfl,hu,hv,hx⟩:=h2.three
 obtain rfl:=hu.str_inv
 obtain rfl:=hx.str_inv
 obtain⟨q2,qy,rfl,n2,h3,h4⟩:=hv.list_inv
 obtain rfl:=h4.strs_inv
 exact⟨q1,q2,rfl,h1,n2,h3⟩
theorem tieL_open {p:Addr} {H:Hp} {v:V} {g:TieR} (h:RdV (fun a=>a≠p) H v (tieL g)):∃ q pl,v=.ref q∧H q=some (.tup [.str g.nm,.ref pl])∧pl≠p∧H pl=some (.lst (g.ps.map V.str)):=by
 obtain⟨q1,qx,rfl,_,h1,h2⟩:=RdV.tuple_inv h
 obtain⟨u,v,rfl,hu,hv⟩:=h2.two
 obtain rfl:=hu.str_inv
 obtain⟨q2,qy,rfl,n2,h3,h4⟩:=hv.list_inv
 obtain rfl:=h4.strs_inv
 exact⟨q1,q2,rfl,h1,n2,h3⟩
section
variable {P:Program} {w:World} {K:PySem.W.Frag} {mg:Str→Option Value} {base:Heap}
abbrev s_law_term:Stmt:=top 45
theorem zor:FnScope ["_law_pot_here","_law_book_here","_law_scope","_law_kind","_law_deep","_law_some","_law_variable_here","_law_function","_law_terms"] ["_law_pot_here","_law_book_here","_law_scope","_law_kind","_law_deep"] (defScope s_law_term):=⟨rfl,rfl,rfl,by decide +kernel,rfl,by decide +kernel,by decide +kernel⟩
theorem zos:LN .cell s_law_term "_law_book_here":=by decide +kernel
theorem zot:LN .cell s_law_term "_law_deep":=by decide +kernel
theorem zou:LN .globalImplicit s_law_term "_law_draw":=by decide +kernel
theorem zov:LN .local s_law_term "_law_function":=by decide +kernel
theorem zow:LN .cell s_law_term "_law_kind":=by decide +kernel
theorem zox:LN .cell s_law_term "_law_pot_here":=by decide +kernel
theorem zoy:LN .cell s_law_term "_law_scope":=by decide +kernel
theorem zoz:LN .local s_law_term "_law_some":=by decide +kernel
theorem zo0:LN .local s_law_term "_law_terms":=by decide +kernel
theorem zo1:LN .globalImplicit s_law_term "_law_variable":=by decide +kernel
theorem zo2:LN .local s_law_term "_law_variable_here":=by decide +kernel
theorem zo3:LN .globalImplicit s_law_term "len":=by decide +kernel
theorem zo4:LN .globalImplicit s_law_term "tuple":=by decide +kernel
abbrev QS12:Scope:={kind:=PySem.ScopeKind.function,names:=[ (PySem.Str.ofString ".0",PySem.NameKind.local),(PySem.Str.ofString "_law_place",PySem.NameKind.local),(PySem.Str.ofString "_law_term",PySem.NameKind.globalImplicit),(PySem.Str.ofString "_law_book_here",PySem.NameKind.free),(PySem.Str.ofString "_law_deep",PySem.NameKind.free),(PySem.Str.ofString "_law_pot_here",PySem.NameKind.free),(PySem.Str.ofString "_law_scope",PySem.NameKind.free)],isGenerator:=false,isCoroutine:=false,more:=[]:PySem.Scope}
theorem zo5:CompSc 1 ["_law_place","_law_pot_here","_law_book_here","_law_scope","_law_kind","_law_deep","_law_some","_law_variable_here","_law_function","_law_terms"] ["_law_pot_here","_law_book_here","_law_scope","_law_kind","_law_deep","_law_some","_law_variable_here","_law_function","_law_terms"] (defScope s_law_term) QS12:=⟨rfl,by decide +kernel,by decide +kernel,by decide +kernel,by decide +kernel,rfl,by decide +kernel⟩
theorem zo6:LC .free QS12 "_law_book_here":=by decide +kernel
theorem zo7:LC .free QS12 "_law_deep":=by decide +kernel
theorem zo8:LC .local QS12 "_law_place":=by decide +kernel
theorem zo9:LC .free QS12 "_law_pot_here":=by decide +kernel
theorem zpa:LC .free QS12 "_law_scope":=by decide +kernel
theorem zpb:LC .globalImplicit QS12 "_law_term":=by decide +kernel
abbrev QS13:Scope:={kind:=PySem.ScopeKind.function,names:=[ (PySem.Str.ofString ".0",PySem.NameKind.local),(PySem.Str.ofString "_law_function",PySem.NameKind.local),(PySem.Str.ofString "_law_kind",PySem.NameKind.free)],isGenerator:=false,isCoroutine:=false,more:=[]:PySem.Scope}
theorem zpc:CompSc 1 ["_law_function","_law_pot_here","_law_book_here","_law_scope","_law_kind","_law_deep","_law_some","_law_variable_here",".h_law_function","_law_terms"] ["_law_pot_here","_law_book_here","_law_scope","_law_kind","_law_deep","_law_some","_law_variable_here","_law_function","_law_terms"] (defScope s_law_term) QS13:=⟨rfl,by decide +kernel,by decide +kernel,by decide +kernel,by decide +kernel,rfl,by decide +kernel⟩
theorem zpd:LC .local QS13 "_law_function":=by decide +kernel
theorem zpe:LC .free QS13 "_law_kind":=by decide +kernel
def IsDr (fs:List FunR) (ps:List (Str×Str)) (kd:Str) (n:Nat) (H:Hp) (v:V):Prop:=v=.non∨∃ t,Tup H v t∧IsTm fs (meant ps) t kd∧Fit n (bT n) t
theorem IsDr.keep {fs:List FunR} {ps:List (Str×Str)} {kd:Str} {n:Nat} {H H':Hp} {v:V} (h:IsDr fs ps kd n H v) (s:Tups H H'):IsDr fs ps kd n H' v:=by
 rcases h with h | ⟨t,h1,h2⟩
 ·exact .inl h
 ·exact .inr ⟨t,tup_keep s h1,h2⟩
theorem IsDr.thg {K:PySem.W.Frag} {fs:List FunR} {ps:List (Str×Str)} {kd:Str} {n:Nat} {H:Hp} {v:V} (h:IsDr fs ps kd n H v):Thg K H v:=by
 rcases h with h | ⟨t,h1,h2⟩
 ·exact .inl h
 ·cases h1 with
  | leaf x=>exact .inr (.inl ⟨x,rfl⟩)
  | node e r=>exact .inr (.inr ⟨_,_,rfl,SqT.of e⟩)
theorem paired_snoc {α β:Type} {F:α→β→Prop} {x:α} {y:β} (h:F x y):∀ {a:List α} {b:List β},Paired F a b→Paired F (a++[x]) (b++[y])
 | _,_,.nil=>.cons h .nil
 | _,_,.cons f r=>.cons f (paired_snoc h r)
theorem paired_mem {α β:Type} {F:α→β→Prop} {x:α}:∀ {a:List α} {b:List β},Paired F a b→x∈a→∃ y∈b,F x y
 | _,_,.nil,h=>by cases h
 | _,_,.cons f r,h=>by
  rcases List.mem_cons.mp h with rfl | h
  ·exact⟨_,List.mem_cons_self,f⟩
  ·obtain⟨y,hy,q⟩:=paired_mem r h
   exact⟨y,List.mem_cons_of_mem _ hy,q⟩
theorem drs_of {fs:List FunR} {ps:List (Str×Str)} {n:Nat} {H:Hp}:∀ {ys:List V} {ks:List Str},Paired (fun y k=>IsDr fs ps k n H y) ys ks→(ys.any fun v=>decide (v=.non))=false→∃ l,TupA H ys l∧IsTms fs (meant ps) l ks∧∀ t∈l,Fit n (bT n) t
 | _,_,.nil,_=>⟨[],.nil,.nil,fun _ z=>nomatch z⟩
 | _,_,.cons f r,h=>by
  rw [List.any_cons,Bool.or_eq_false_iff] at h
  obtain⟨l,h1,h2,h3⟩:=drs_of r h.2
  rcases f with rfl | ⟨t,a1,a2,a3⟩
  ·exact absurd h.1 (by simp)
  ·refine⟨t::l,.cons a1 h1,.cons a2 h2,fun u hu=>?_⟩
   rcases List.mem_cons.mp hu with rfl | hu
   ·exact a3
   ·exact h3 u hu
def spTmD (n:Nat):Sp:=fun vs H Q _=>∃ (p b a:Addr) (ps:List (Str×Str)) (kd:Str) (ks:List Str) (ts:List TieR) (fs:List FunR),vs=[.ref p,.ref b,.ref a,.str kd,.int n]∧PotAt H p∧BkAt H p b ks ts fs∧BookOk ks ts fs∧ScL H a ps∧ps.length≤3∧(∀ q∈ps,isNm q.1)∧∀ v H',IsDr fs ps kd n H' v→Went p H H'→Q v H'
def spTmD':Nat→Sp
 | 0=>fun _ _ _ _=>False
 | n+1=>spTmD n
theorem spTmD'_of {m:Nat} {vs:List V} {H:Hp} {Q:VK} {E:XK} (h:spTmD m vs H Q E):spTmD' (m+1) vs H Q E:=h
theorem ok_tmD_of (F:FunAt K mg "_law_term" s_law_term ["_law_pot_here","_law_book_here","_law_scope","_law_kind","_law_deep"]) (Z:Bl mg) (D_law_draw:Def P w K mg base "_law_draw" 1 ["_law_pot_here","_law_many"] spDraw) (D_law_variable:Def P w K mg base "_law_variable" 2 ["_law_pot_here","_law_scope","_law_kind"] spVar) (n:Nat)
  (D_law_term:Def P w K mg base "_law_term" (n+2) ["_law_pot_here","_law_book_here","_law_scope","_law_kind","_law_deep"] (spTmD' n)):Def P w K mg base "_law_term" (n+3) ["_law_pot_here","_law_book_here","_law_scope","_law_kind","_law_deep"] (spTmD n):=by
 have SC:=zor
 refine F.mk' (k:=n+2) zor (fun vs H Q E h=>?_) (fun f cdv A outer s H vs Q E hr h=>?_)
 ·obtain⟨p,b,a,ps,kd,ks,ts,fs,rfl,_⟩:=h
  rfl
 ·obtain⟨p,b,a,ps,kd,ks,ts,fs,rfl,hp,hb,ok,hs,hl,hn,q⟩:=h
  refine'⟨_,?derivation,?_⟩
  case derivation=>refine' pss_cons ?Aa ?Ba;(case Aa=>refine' ps_augS (pq 0 (visC zox) zbn zbo) ?Ca get_list ?Da ip_sub set_list;(case Ca=>exact pe_int);case Da=>exact pe_int);case Ba=>refine' pss_cons ?Ea ?Fa;(case Ea=>refine' ps_setCompG (i:=5) (x:=Str.ofString "_law_some") SC.nd rfl (Or.inl zoz) rfl framed_of rfl zpc.at ?Ga ?Ha ?Ia ?Ja ?Ka (.inl rfl);(case Ga=>refine' pi_list ?La;case La=>refine' pe_ix ix_tup (pq 1 (visC zos) zob zoc) ?Ma ?Na;(case Ma=>exact pe_int);case Na=>intro _ _;exact rfl);(case Ha=>intro _ _ _ _ _;refine' pg_name (i:=0) zpc.nd rfl (locO zpd) (.inr (lookup_relabel_local zpd)));(case Ia=>intro _ _ _ _ _;refine' pt_cmpR op_eq ?Oa (pq 4 (visF zpe) zng znh) (nomark _);case Oa=>refine' pe_ix ix_tup (pq 0 (visO zpd) zof zog) ?Pa ?Qa;(case Pa=>exact pe_int);case Qa=>intro _ _;exact rfl);(case Ja=>intro _ _ _ _ _;exact(pq 0 (visO zpd) zof zog));case Ka=>intro _; rfl);case Fa=>refine' pss_cons ?Ra ?Sa;(case Ra=>refine' ps_set (i:=6) (x:=Str.ofString "_law_variable_here") ?Ta ?Ua ?Va ?Wa ?Xa ?Ya;(case Ta=>exact SC.nd);(case Ua=>exact rfl);(case Va=>exact(Or.inl zo2));(case Wa=>refine' pe_def (hdb:=zoo) D_law_variable (hr.mono (by omega)) zo1 ?Za rfl rfl;case Za=>refine' pa_cons (pq 0 (visC zox) zbn zbo) ?Ab ?Bb;(case Ab=>refine' pa_cons (pq 2 (visC zoy) znk znl) ?Cb ?Db;(case Cb=>refine' pa_cons (pq 3 (visC zow) zng znh) pa_nil ?Eb;case Eb=>rfl);case Db=>rfl);case Bb=>rfl);(case Xa=>rfl);case Ya=>exact .inl rfl);case Sa=>refine' pss_cons ?Fb ?Gb;(case Fb=>refine' ps_if ?Hb ?Ib pss_nil;(case Hb=>refine' PW.pt ?Jb;case Jb=>refine' pw_or ?Kb ?Lb;(case Kb=>refine' pt_cmpR (op_eqL0 hr.units0) (pq 5 (visL zoz) zoj zok) ?Mb (nomark _);case Mb=>refine' pe_lst pa_nil);case Lb=>refine' pw_or ?Nb ?Ob;(case Nb=>refine' pt_cmpR op_eq (pq 4 (visC zot) zod zoe) ?Pb (nomark _);case Pb=>exact pe_int);case Ob=>refine' pw_or ?Qb ?Rb;(case Qb=>refine' pt_cmpR op_lt ?Sb ?Tb (nomark _);(case Sb=>refine' pe_ix ix_list (pq 0 (visC zox) zbn zbo) ?Ub ?Vb;(case Ub=>exact pe_int);case Vb=>intro _ _;exact rfl);case Tb=>exact pe_int);case Rb=>refine' pw_or1 ?Wb;case Wb=>refine' PW.pt ?Xb;case Xb=>refine' pw_and ?Yb ?Zb;(case Yb=>refine' pt_cmpR op_notN (pq 6 (visL zo2) zop zoq) ?Ac (nomark _);case Ac=>exact pe_non);case Zb=>refine' pw_and1 ?Bc;case Bc=>refine' pt_cmpR op_gt ?Cc ?Dc (nomark _);(case Cc=>refine' pe_def (hdb:=zbe) D_law_draw (hr.mono (by omega)) zou ?Ec rfl rfl;case Ec=>refine' pa_cons (pq 0 (visC zox) zbn zbo) ?Fc ?Gc;(case Fc=>refine' pa_cons ?Hc pa_nil ?Ic;(case Hc=>exact pe_int);case Ic=>rfl);case Gc=>rfl);case Dc=>exact pe_int);case Ib=>refine' pss_one ?Jc;case Jc=>refine' ps_ret (pq 6 (visL zo2) zop zoq));case Gb=>refine' pss_cons ?Kc ?Lc;(case Kc=>refine' ps_set (i:=7) (x:=Str.ofString "_law_function") ?Mc ?Nc ?Oc ?Pc ?Qc ?Rc;(case Mc=>exact SC.nd);(case Nc=>exact rfl);(case Oc=>exact(Or.inl zov));(case Pc=>refine' pe_ix ix_list (pq 5 (visL zoz) zoj zok) ?Sc ?Tc;(case Sc=>refine' pe_def (hdb:=zbe) D_law_draw (hr.mono (by omega)) zou ?Uc rfl rfl;case Uc=>refine' pa_cons (pq 0 (visC zox) zbn zbo) ?Vc ?Wc;(case Vc=>refine' pa_cons ?Xc pa_nil ?Yc;(case Xc=>refine' pe_callB (hn:=zbw) (hdb:=zbv) call_len_seq zo3 Z.n_len bt_len ?Zc rfl rfl;case Zc=>refine' pa_cons (pq 5 (visL zoz) zoj zok) pa_nil ?Ad;case Ad=>rfl);case Yc=>rfl);case Wc=>rfl);case Tc=>intro _ _;exact rfl);(case Qc=>rfl);case Rc=>exact .inl rfl);case Lc=>refine' pss_cons ?Bd ?Cd;(case Bd=>refine' ps_setComp (i:=8) (x:=Str.ofString "_law_terms") SC.nd ?Dd (Or.inl zo0) ?Ed noxe ?Fd zo5.at ?Gd ?Hd ?Id ?Jd ?Kd;(case Dd=>exact rfl);(case Ed=>exact rfl);(case Fd=>exact rfl);(case Gd=>refine' pi_list ?Ld;case Ld=>refine' pe_ix ix_tup (pq 7 (visL zov) zof zog) ?Md ?Nd;(case Md=>exact pe_int);case Nd=>intro _ _;exact rfl);(case Hd=>intro _ _ _ _ _;refine' pg_name (i:=0) zo5.nd rfl (locO zo8) (.inr (lookup_relabel_local zo8)));(case Id=>intro _ _ _ _ _;refine' pe_def (hdb:=zol) D_law_term (hr.mono (by omega)) (glO zpb) ?Od rfl rfl;case Od=>refine' pa_cons (pq 1 (visF zo9) zbn zbo) ?Pd ?Qd;(case Pd=>refine' pa_cons (pq 2 (visF zo6) zob zoc) ?Rd ?Sd;(case Rd=>refine' pa_cons (pq 3 (visF zpa) znk znl) ?Td ?Ud;(case Td=>refine' pa_cons (pq 0 (visO zo8) zoh zoi) ?Vd ?Wd;(case Vd=>refine' pa_cons ?Xd pa_nil ?Yd;(case Xd=>refine' pe_op op_sub (pq 5 (visF zo7) zod zoe) ?Zd;case Zd=>exact pe_int);case Yd=>rfl);case Wd=>rfl);case Ud=>rfl);case Sd=>rfl);case Qd=>rfl);(case Jd=>intro _; rfl);case Kd=>exact .inl rfl);case Cd=>refine' pss_cons ?Ae ?Be;(case Ae=>refine' ps_if ?Ce ?De pss_nil;(case Ce=>refine' pt_cmpR (op_nonIn (hu_of hr)) ?Ee (pq 8 (visL zo0) zom zon) (by with_unfolding_all rfl);case Ee=>exact pe_non);case De=>refine' pss_one ?Fe;case Fe=>refine' ps_ret (pq 6 (visL zo2) zop zoq));case Be=>refine' pss_one ?Ge;case Ge=>refine' ps_ret ?He;case He=>refine' pe_op op_catTT ?Ie ?Je;(case Ie=>refine' pe_tup ?Ke;case Ke=>refine' pa_cons ?Le pa_nil ?Me;(case Le=>refine' pe_ix ix_tup (pq 7 (visL zov) zof zog) ?Ne ?Oe;(case Ne=>exact pe_int);case Oe=>intro _ _;exact rfl);case Me=>rfl);case Je=>refine' pe_callTy (hn:=zeu) (hdb:=zet) ?Pe zo4 Z.n_tuple bt_tuple ?Qe rfl rfl;(case Pe=>exact call_tuple_of);case Qe=>refine' pa_cons (pq 8 (visL zo0) zom zon) pa_nil ?Re;case Re=>rfl
  obtain⟨x0,x1,x2,ep,ha,hb0,hb1⟩:=id hp
  refine⟨_,rfl,p,_,2,.int x2,rfl,rfl,by decide,SqL.of ep,rfl,_,_,rfl,rfl,p,_,2,2,rfl,rfl,ep,rfl,?_⟩
  generalize hHA:upd H p (.lst (List.set [V.int x0,V.int x1,V.int x2] 2 (V.int (x2-1))))=HA
  have wA:Went p H HA:=⟨⟨x0,x1,x2-1,by rw [← hHA]; exact upd_same,ha,hb0,hb1⟩,by rw [← hHA]; exact SameX.upd _ _ _⟩
  have bA:=RdV.went hb wA.same
  obtain⟨kA,tA,fA,tv,fv,eb,nk,ek,nt,et,rt,nf,ef,rf⟩:=BkAt.open bA
  have fl:fv.length=fs.length:=by rw [RdA.length rf,List.length_map]
  have ok8:=ok.sl
  refine⟨_,rfl,b,_,2,.ref fA,rfl,rfl,SqT.of eb,rfl,fA,rfl,⟨_,SqL.of ef⟩,fun cl C ex s0 Hc=>?_⟩
  refine⟨fun i m ys σ' H2=>H2=HA∧m=fv.length-i∧i≤fv.length∧ys.length≤i∧(∃ v0,σ'=[v0,some (.ref p),some (.ref b),some (.ref a),some (.str kd),some (.int n),none,none,none,none])∧∀ y∈ys,∃ g∈fs,RdV (fun a=>a≠p) HA y (funL g)∧g.kd=kd,⟨_,rfl,rfl,Nat.zero_le _,Nat.le_refl _,⟨_,rfl⟩,fun _ z=>nomatch z⟩,?_⟩
  rintro i m ys σ' H2 ⟨rfl,rfl,hi,hy,⟨v0,rfl⟩,hall⟩
  by_cases hlt:i<fv.length
  ·refine .inr ⟨⟨fv,fv[i],SqL.of ef,by simp [hlt]⟩,Nat.lt_of_le_of_lt (show ys.length≤8 by omega) (by decide),fun x H' hyl=>?_⟩
   obtain⟨rfl,hx⟩:=hyl
   have hx:=hx fv (SqL.of ef)
   obtain⟨d,ed,rd⟩:=RdA.getV rf hx
   rw [List.getElem?_map] at ed
   obtain⟨g,eg,rfl⟩:=Option.map_eq_some_iff.mp ed
   obtain⟨q1,q2,rfl,e1,n2,e2⟩:=funL_open rd
   refine⟨_,rfl,q1,_,2,.str g.kd,rfl,rfl,SqT.of e1,rfl,_,rfl,rfl,_,rfl,?_⟩
   by_cases hk:g.kd=kd
   ·refine ifT (by simp [hk]) ⟨fun v H3=>v=.ref q1∧H3=H',⟨_,rfl,rfl,rfl⟩,?_⟩
    rintro v H3 ⟨rfl,rfl⟩
    refine⟨_,?_,rfl,rfl,hlt,by rw [List.length_append,List.length_singleton]; omega,⟨_,rfl⟩,fun y hy'=>?_⟩
    ·omega
    ·rcases List.mem_append.mp hy' with h | h
     ·exact hall y h
     ·rw [List.mem_singleton.mp h]; exact⟨g,List.mem_of_getElem? eg,rd,hk⟩
   ·refine ifF (by simp [hk]) ⟨_,?_,rfl,rfl,hlt,by omega,⟨_,rfl⟩,hall⟩
    omega
  ·obtain rfl:i=fv.length:=by omega
   refine .inl ⟨⟨fv,SqL.of ef,Nat.le_refl _⟩,fun D hD=>?_⟩
   have wB:Went p H2 (upd H2 D (.lst ys)):=(Went.refl wA.pot).new hD _
   have nDp:D≠p:=Ne.symm (wA.ne hD)
   refine⟨_,rfl,_,rfl,_,rfl,p,a,ps,kd,rfl,wB.pot,(hs.went hp wA.same).went wA.pot wB.same,hl,fun vv H3 hv w3=>?_⟩
   have wC:=wB.trans w3
   have gD:H3 D=some (.lst ys):=w3.at nDp upd_same
   have hvD:∀ H',IsDr fs ps kd n H' vv:=fun H'=>by
    rcases hv with rfl | ⟨x,rfl,hx⟩
    ·exact .inl rfl
    ·refine .inr ⟨.leaf x,.leaf x,.var hx,(Fit.nm ?_).mono (Nat.zero_le _) (bT_12 n)⟩
     obtain⟨qq,hq,rfl⟩:=meant_mem hx
     exact hn _ hq
   dsimp only [gName]
   refine seq_mid (fun σ' H'=>σ'=[some (.ref p),some (.ref b),some (.ref a),some (.str kd),some (.int n),some (.ref D),some vv,none,none]∧Went p H2 H'∧H' D=some (.lst ys)∧ys≠[]∧n≠0) ?_ (fun go=>?_)
   ·rintro σ' H5 ⟨rfl,w5,g5,yn,n0⟩
    obtain⟨m,rfl⟩:∃ m,n=m+1:=⟨n-1,by omega⟩
    have yl:0<ys.length:=List.length_pos_iff.mpr yn
    refine⟨_,rfl,_,rfl,_,rfl,D,_,rfl,.inl (SqL.of g5),?_⟩
    refine⟨p,_,rfl,w5.pot,by omega,by omega,fun r H6 r0 r1 p6 s6=>?_⟩
    have hr1:r.toNat<ys.length:=by omega
    refine⟨D,_,r,ys[r.toNat],rfl,rfl,SqL.of (s6 _ _ nDp g5),atI_int r0 (by simp [hr1]),?_⟩
    obtain⟨g,hg,rg,gk⟩:=hall _ (List.getElem_mem hr1)
    have w6:Went p H2 H6:=w5.mk1 p6 s6
    obtain⟨q1,q2,eq,e1,n2,e2⟩:=funL_open (RdV.went rg w6.same)
    rw [eq]
    obtain⟨gn,g2,gks,_⟩:=ok.fn g hg
    refine⟨_,rfl,q1,_,1,.ref q2,rfl,rfl,SqT.of e1,rfl,q2,rfl,⟨_,SqL.of e2⟩,fun cl C ex s0 Hc=>?_⟩
    have bk:∀ {H7},Went p H6 H7→BkAt H7 p b ks ts fs:=fun w7=>RdV.went bA (w6.trans w7).same
    have sc:∀ {H7},Went p H6 H7→ScL H7 a ps:=fun w7=>(hs.went hp wA.same).went wA.pot (w6.trans w7).same
    refine comp_it1 (g.ps.map V.str).length (fun i ys7 H7=>Went p H6 H7∧Paired (fun y k=>IsDr fs ps k m H7 y) ys7 (g.ps.take i)) (fun i y=>(g.ps.map V.str)[i]? = some y) ⟨Went.refl p6,.nil⟩ (by rw [List.length_map]; exact Nat.le_trans g2 (by decide))
     (fun i ys7 H7 hi _ h=>go_list (SqL.of (h.1.at n2 e2)) hi) (fun ys7 H7 _ h=>stop_list (SqL.of (h.1.at n2 e2))) ?_ ?_
    ·rintro i y ys7 H7 hi hy7 yl7 ⟨w7,dr7⟩
     rw [List.getElem?_map] at hy7
     obtain⟨k,hk,rfl⟩:=Option.map_eq_some_iff.mp hy7
     refine⟨_,rfl,_,rfl,_,rfl,_,rfl,_,rfl,_,_,rfl,rfl,?_⟩
     refine spTmD'_of (E:=E0) ⟨p,b,a,ps,k,ks,ts,fs,?_,w7.pot,bk w7,ok,sc w7,hl,hn,fun v H8 hv8 w8=>⟨w7.trans w8,?_⟩⟩
     ·have : ((m+1:Nat):Int) - 1=(m:Int):=by omega
      show [V.ref p,V.ref b,V.ref a,V.str k,V.int (((m+1:Nat):Int) - 1)]=_
      rw [this]
     ·rw [List.take_succ,hk]
      have h7:Paired (fun y k=>IsDr fs ps k m H8 y) ys7 (g.ps.take i):=Paired.mapP dr7 fun y k z=>IsDr.keep z (pot_tups w7.pot w8.same)
      exact paired_snoc (F:=fun y k=>IsDr fs ps k m H8 y) hv8 h7
    ·rintro ys7 H7 yl7 ⟨w7,dr7⟩ D2 hD2
     rw [List.length_map,List.take_length] at dr7
     have w8:Went p H6 (upd H7 D2 (.lst ys7)):=w7.new hD2 _
     have dr8:Paired (fun y k=>IsDr fs ps k m (upd H7 D2 (.lst ys7)) y) ys7 g.ps:=Paired.mapP dr7 fun y k z=>IsDr.keep z (Same.tups (same_new hD2 (.lst ys7)))
     refine⟨_,rfl,D2,ys7,rfl,rfl,SqL.of upd_same,fun v hv7=>(paired_mem dr8 hv7).elim fun k hk=>IsDr.thg hk.2,_,rfl,?_⟩
     by_cases hany:(ys7.any fun v=>decide (v=.non))=true
     ·exact ifT hany ⟨_,rfl,q _ _ (hvD _) (wA.trans (w6.trans w8))⟩
     ·refine ifF hany ?_
      obtain⟨l,l1,l2,l3⟩:=drs_of dr8 (Bool.eq_false_iff.mpr hany)
      have w8':=w6.trans w8
      have e8:upd H7 D2 (.lst ys7) q1=some (.tup [.str g.nm,.ref q2,.str g.kd]):=(Same.tups (same_new hD2 (.lst ys7))) _ _ (pot_tups p6 w7.same _ _ e1)
      refine⟨_,rfl,q1,_,0,.str g.nm,rfl,rfl,SqT.of e8,rfl,(by show 1≤sizeLine; decide),fun t1 ht1=>?_⟩
      have u1:upd (upd H7 D2 (.lst ys7)) t1 (.tup [.str g.nm]) D2=some (.lst ys7):=by rw [upd_ne (ne_of_none upd_same ht1)]; exact upd_same
      refine⟨_,rfl,D2,ys7,rfl,.inl ⟨SqL.of u1,fun t2 ht2=>?_⟩⟩
      have s1:=same_new ht1 (.tup [.str g.nm])
      have s2:=same_new ht2 (.tup ys7)
      have yl2:ys7.length≤2:=by rw [yl7,List.length_map]; exact g2
      refine cat_of (s2 _ _ upd_same) upd_same (Nat.le_trans (show 1+ys7.length≤3 by omega) (by decide)) fun pp H9 e9 s9=>?_
      have s8:=(s1.trans s2).trans s9
      refine q _ _ (.inr ⟨.node (.leaf g.nm::l),.node e9 (.cons (.leaf _) (tupA_keep (Same.tups s8) l1)),by rw [← gk]; exact .app hg l2,?_⟩) ?_
      ·refine(Fit.node (FitA.cons ((Fit.nm gn.1).mono (Nat.zero_le m) (Nat.le_refl _)) (FitA.all (n:=2) l3 (by rw [IsTms.length l2]; exact g2)))).mono (Nat.le_refl _) ?_
       rw [bT]; omega
      ·exact(wA.trans w8').mk1 (w8'.pot.keep s8) s8.x
   ·have tell:∀ H',Went p H2 H'→Q vv H':=fun H' w'=>q _ _ (hvD _) (wA.trans w')
    refine⟨_,rfl,Nat.zero_le _,fun l hl'=>⟨D,l,ys,rfl,rfl,SqL.of (by rw [upd_ne (ne_of_none gD hl')]; exact gD),SqL.of upd_same,_,rfl,?_⟩⟩
    have wD:=wC.new hl' (.lst [])
    have gD4:upd H3 l (.lst []) D=some (.lst ys):=by rw [upd_ne (ne_of_none gD hl')]; exact gD
    by_cases yn:ys=[]
    ·exact ifT (by rw [yn]; rfl) (ifT rfl ⟨_,rfl,tell _ wD⟩)
    refine ifF (by simpa using yn) ⟨_,rfl,rfl,_,rfl,?_⟩
    by_cases n0:n=0
    ·exact ifT (by simp [n0]) (ifT rfl ⟨_,rfl,tell _ wD⟩)
    refine ifF (by simp; omega) ?_
    obtain⟨c0,c1,c2,ec,hc0,hc1,hc2⟩:=id wD.pot
    refine⟨_,rfl,p,_,2,.int c2,rfl,rfl,SqL.of ec,rfl,_,_,rfl,rfl,_,rfl,?_⟩
    by_cases c1':c2<1
    ·exact ifT (by simpa using c1') (ifT rfl ⟨_,rfl,tell _ wD⟩)
    refine ifF (by simpa using c1') ⟨_,rfl,rfl,_,rfl,?_⟩
    by_cases hvn:vv=.non
    ·exact ifF (by simp [hvn]) (ifF (by simp) (go _ _ ⟨rfl,wD,gD4,yn,n0⟩))
    refine ifT (by simp [hvn]) ⟨_,rfl,p,3,rfl,wD.pot,by decide,by decide,fun r H5 r0 r1 p5 s5=>⟨_,_,rfl,rfl,_,rfl,?_⟩⟩
    by_cases r2:r > 0
    ·exact ifT (by simpa using r2) ⟨_,rfl,tell _ (wD.mk1 p5 s5)⟩
    ·exact ifF (by simpa using r2) (go _ _ ⟨rfl,wD.mk1 p5 s5,s5 _ _ nDp gD4,yn,n0⟩)
theorem ok_tmD0 (F:FunAt K mg "_law_term" s_law_term ["_law_pot_here","_law_book_here","_law_scope","_law_kind","_law_deep"]):Def P w K mg base "_law_term" 2 ["_law_pot_here","_law_book_here","_law_scope","_law_kind","_law_deep"] (spTmD' 0):=
 F.mk' (k:=1) zor (fun vs H Q E h=>False.elim h) fun f cdv A outer s H vs Q E hr h=>False.elim h
theorem ok_tmD (F:FunAt K mg "_law_term" s_law_term ["_law_pot_here","_law_book_here","_law_scope","_law_kind","_law_deep"]) (Z:Bl mg) (D_law_draw:Def P w K mg base "_law_draw" 1 ["_law_pot_here","_law_many"] spDraw) (D_law_variable:Def P w K mg base "_law_variable" 2 ["_law_pot_here","_law_scope","_law_kind"] spVar):∀ n,Def P w K mg base "_law_term" (n+3) ["_law_pot_here","_law_book_here","_law_scope","_law_kind","_law_deep"] (spTmD n)
 | 0=>ok_tmD_of F Z D_law_draw D_law_variable 0 (ok_tmD0 F)
 | n+1=>ok_tmD_of F Z D_law_draw D_law_variable (n+1) (ok_tmD F Z D_law_draw D_law_variable n)
end
theorem zpf:LD "_law_at":=by decide +kernel
theorem zpg:LS "_law_at":=by decide +kernel
theorem zph:LD "_law_word":=by decide +kernel
theorem zpi:LS "_law_word":=by decide +kernel
section
variable {P:Program} {w:World} {K:PySem.W.Frag} {mg:Str→Option Value} {base:Heap}
abbrev s_law_atom:Stmt:=top 46
theorem zpj:FnScope ["_law_pot_here","_law_book_here","_law_scope","_law_deep","_law_at","_law_word","_law_places","_law_terms"] ["_law_pot_here","_law_book_here","_law_scope","_law_deep"] (defScope s_law_atom):=⟨rfl,rfl,rfl,by decide +kernel,rfl,by decide +kernel,by decide +kernel⟩
theorem zpk:LN .local s_law_atom "_law_at":=by decide +kernel
theorem zpl:LN .cell s_law_atom "_law_book_here":=by decide +kernel
theorem zpm:LN .globalImplicit s_law_atom "_law_draw":=by decide +kernel
theorem zpn:LN .local s_law_atom "_law_places":=by decide +kernel
theorem zpo:LN .cell s_law_atom "_law_pot_here":=by decide +kernel
theorem zpp:LN .local s_law_atom "_law_terms":=by decide +kernel
theorem zpq:LN .local s_law_atom "_law_word":=by decide +kernel
theorem zpr:LN .globalImplicit s_law_atom "len":=by decide +kernel
theorem zps:LN .globalImplicit s_law_atom "tuple":=by decide +kernel
theorem zpt:CompSc 1 ["_law_place","_law_pot_here","_law_book_here","_law_scope","_law_deep","_law_at","_law_word","_law_places","_law_terms"] ["_law_pot_here","_law_book_here","_law_scope","_law_deep","_law_at","_law_word","_law_places","_law_terms"] (defScope s_law_atom) QS12:=⟨rfl,by decide +kernel,by decide +kernel,by decide +kernel,by decide +kernel,rfl,by decide +kernel⟩
theorem zpu:LC .free QS12 "_law_book_here":=by decide +kernel
theorem zpv:LC .free QS12 "_law_deep":=by decide +kernel
theorem zpw:LC .local QS12 "_law_place":=by decide +kernel
theorem zpx:LC .free QS12 "_law_pot_here":=by decide +kernel
theorem zpy:LC .free QS12 "_law_scope":=by decide +kernel
theorem zpz:LC .globalImplicit QS12 "_law_term":=by decide +kernel
def spAtom:Sp:=fun vs H Q _=>∃ (p b a:Addr) (ps:List (Str×Str)) (ks:List Str) (ts:List TieR) (fs:List FunR),vs=[.ref p,.ref b,.ref a,.int 2]∧PotAt H p∧BkAt H p b ks ts fs∧BookOk ks ts fs∧ScL H a ps∧ps.length≤3∧(∀ q∈ps,isNm q.1)∧∀ v H' t,Tup H' v t→IsSy ks ts fs (meant ps) t→Fit 3 222 t→Went p H H'→Q v H'
theorem ok_atom (F:FunAt K mg "_law_atom" s_law_atom ["_law_pot_here","_law_book_here","_law_scope","_law_deep"]) (Z:Bl mg) (D_law_draw:Def P w K mg base "_law_draw" 1 ["_law_pot_here","_law_many"] spDraw)
  (D_law_term:Def P w K mg base "_law_term" (2+3) ["_law_pot_here","_law_book_here","_law_scope","_law_kind","_law_deep"] (spTmD 2)):Def P w K mg base "_law_atom" 6 ["_law_pot_here","_law_book_here","_law_scope","_law_deep"] spAtom:=by
 have SC:=zpj
 refine F.mk' (k:=5) zpj (fun vs H Q E h=>?_) (fun f cdv A outer s H vs Q E hr h=>?_)
 ·obtain⟨p,b,a,ps,ks,ts,fs,rfl,_⟩:=h
  rfl
 ·obtain⟨p,b,a,ps,ks,ts,fs,rfl,hp,hb,ok,hs,hl,hn,q⟩:=h
  refine'⟨_,?derivation,?_⟩
  case derivation=>refine' pss_cons ?Aa ?Ba;(case Aa=>refine' ps_set (i:=4) (x:=Str.ofString "_law_at") ?Ca ?Da ?Ea ?Fa ?Ga ?Ha;(case Ca=>exact SC.nd);(case Da=>exact rfl);(case Ea=>exact(Or.inl zpk));(case Fa=>refine' pe_def (hdb:=zbe) D_law_draw (hr.mono (by omega)) zpm ?Ia rfl rfl;case Ia=>refine' pa_cons (pq 0 (visC zpo) zbn zbo) ?Ja ?Ka;(case Ja=>refine' pa_cons ?La pa_nil ?Ma;(case La=>refine' pe_op op_add ?Na ?Oa;(case Na=>refine' pe_callB (hn:=zbw) (hdb:=zbv) call_len_seq zpr Z.n_len bt_len ?Pa rfl rfl;case Pa=>refine' pa_cons ?Qa pa_nil ?Ra;(case Qa=>refine' pe_ix ix_tup (pq 1 (visC zpl) zob zoc) ?Sa ?Ta;(case Sa=>exact pe_int);case Ta=>intro _ _;exact rfl);case Ra=>rfl);case Oa=>exact pe_int);case Ma=>rfl);case Ka=>rfl);(case Ga=>rfl);case Ha=>exact .inl rfl);case Ba=>refine' pss_cons ?Ua ?Va;(case Ua=>refine' ps_if ?Wa ?Xa ?Ya;(case Wa=>refine' pt_cmpR op_lt (pq 4 (visL zpk) zpf zpg) ?Za (nomark _);case Za=>refine' pe_callB (hn:=zbw) (hdb:=zbv) call_len_seq zpr Z.n_len bt_len ?Ab rfl rfl;case Ab=>refine' pa_cons ?Bb pa_nil ?Cb;(case Bb=>refine' pe_ix ix_tup (pq 1 (visC zpl) zob zoc) ?Db ?Eb;(case Db=>exact pe_int);case Eb=>intro _ _;exact rfl);case Cb=>rfl);(case Xa=>refine' pss_one ?Fb;case Fb=>refine' ps_asg ?Gb ?Hb ?Ib ?Jb ?Kb;(case Gb=>refine' pe_ix ix_list ?Lb (pq 4 (visL zpk) zpf zpg) ?Mb;(case Lb=>refine' pe_ix ix_tup (pq 1 (visC zpl) zob zoc) ?Nb ?Ob;(case Nb=>exact pe_int);case Ob=>intro _ _;exact rfl);case Mb=>intro _ _;exact rfl);(case Hb=>refine' pg_tup rfl ?Pb rfl rfl;case Pb=>refine' pgs_cons ?Qb ?Rb ?Sb;(case Qb=>refine' pg_name (i:=5) (x:=Str.ofString "_law_word") SC.nd rfl (Or.inl zpq) (.inl rfl));(case Rb=>refine' pgs_cons ?Tb pgs_nil ?Ub;(case Tb=>refine' pg_name (i:=6) (x:=Str.ofString "_law_places") SC.nd rfl (Or.inl zpn) (.inl rfl));case Ub=>rfl);case Sb=>rfl);(case Ib=>rfl);(case Jb=>rfl);case Kb=>rfl);case Ya=>refine' pss_one ?Vb;case Vb=>refine' ps_par (i:=5) (j:=6) (x:=Str.ofString "_law_word") (y:=Str.ofString "_law_places") rfl SC.nd rfl rfl (by decide) zpq zpn ?Wb rfl rfl;case Wb=>refine' pa_cons ?Xb ?Yb ?Zb;(case Xb=>exact pe_str);(case Yb=>refine' pa_cons ?Ac pa_nil ?Bc;(case Ac=>refine' pe_op op_rep ?Cc ?Dc;(case Cc=>refine' pe_lst ?Ec;case Ec=>refine' pa_cons ?Fc pa_nil ?Gc;(case Fc=>refine' pe_ix ix_list ?Hc ?Ic ?Jc;(case Hc=>refine' pe_ix ix_tup (pq 1 (visC zpl) zob zoc) ?Kc ?Lc;(case Kc=>exact pe_int);case Lc=>intro _ _;exact rfl);(case Ic=>refine' pe_def (hdb:=zbe) D_law_draw (hr.mono (by omega)) zpm ?Mc rfl rfl;case Mc=>refine' pa_cons (pq 0 (visC zpo) zbn zbo) ?Nc ?Oc;(case Nc=>refine' pa_cons ?Pc pa_nil ?Qc;(case Pc=>refine' pe_callB (hn:=zbw) (hdb:=zbv) call_len_seq zpr Z.n_len bt_len ?Rc rfl rfl;case Rc=>refine' pa_cons ?Sc pa_nil ?Tc;(case Sc=>refine' pe_ix ix_tup (pq 1 (visC zpl) zob zoc) ?Uc ?Vc;(case Uc=>exact pe_int);case Vc=>intro _ _;exact rfl);case Tc=>rfl);case Qc=>rfl);case Oc=>rfl);case Jc=>intro _ _;exact rfl);case Gc=>rfl);case Dc=>exact pe_int);case Bc=>rfl);case Zb=>rfl);case Va=>refine' pss_cons ?Wc ?Xc;(case Wc=>refine' ps_setComp (i:=7) (x:=Str.ofString "_law_terms") SC.nd ?Yc (Or.inl zpp) ?Zc noxe ?Ad zpt.at ?Bd ?Cd ?Dd ?Ed ?Fd;(case Yc=>exact rfl);(case Zc=>exact rfl);(case Ad=>exact rfl);(case Bd=>refine' pi_list (pq 6 (visL zpn) zc2 zc3));(case Cd=>intro _ _ _ _ _;refine' pg_name (i:=0) zpt.nd rfl (locO zpw) (.inr (lookup_relabel_local zpw)));(case Dd=>intro _ _ _ _ _;refine' pe_def (hdb:=zol) D_law_term (hr.mono (by omega)) (glO zpz) ?Gd rfl rfl;case Gd=>refine' pa_cons (pq 1 (visF zpx) zbn zbo) ?Hd ?Id;(case Hd=>refine' pa_cons (pq 2 (visF zpu) zob zoc) ?Jd ?Kd;(case Jd=>refine' pa_cons (pq 3 (visF zpy) znk znl) ?Ld ?Md;(case Ld=>refine' pa_cons (pq 0 (visO zpw) zoh zoi) ?Nd ?Od;(case Nd=>refine' pa_cons (pq 4 (visF zpv) zod zoe) pa_nil ?Pd;case Pd=>rfl);case Od=>rfl);case Md=>rfl);case Kd=>rfl);case Id=>rfl);(case Ed=>intro _; rfl);case Fd=>exact .inl rfl);case Xc=>refine' pss_cons ?Qd ?Rd;(case Qd=>refine' ps_if ?Sd ?Td pss_nil;(case Sd=>refine' pt_cmpR (op_nonIn (hu_of hr)) ?Ud (pq 7 (visL zpp) zom zon) (by with_unfolding_all rfl);case Ud=>exact pe_non);case Td=>refine' pss_one ?Vd;case Vd=>refine' ps_ret ?Wd;case Wd=>refine' pe_tup ?Xd;case Xd=>refine' pa_cons ?Yd pa_nil ?Zd;(case Yd=>refine' pe_ix ix_list ?Ae ?Be ?Ce;(case Ae=>refine' pe_lst ?De;case De=>refine' pa_cons ?Ee ?Fe ?Ge;(case Ee=>exact pe_str);(case Fe=>refine' pa_cons ?He pa_nil ?Ie;(case He=>exact pe_str);case Ie=>rfl);case Ge=>rfl);(case Be=>refine' pe_def (hdb:=zbe) D_law_draw (hr.mono (by omega)) zpm ?Je rfl rfl;case Je=>refine' pa_cons (pq 0 (visC zpo) zbn zbo) ?Ke ?Le;(case Ke=>refine' pa_cons ?Me pa_nil ?Ne;(case Me=>exact pe_int);case Ne=>rfl);case Le=>rfl);case Ce=>intro _ _;exact rfl);case Zd=>rfl);case Rd=>refine' pss_one ?Oe;case Oe=>refine' ps_ret ?Pe;case Pe=>refine' pe_op op_catTT ?Qe ?Re;(case Qe=>refine' pe_tup ?Se;case Se=>refine' pa_cons (pq 5 (visL zpq) zph zpi) pa_nil ?Te;case Te=>rfl);case Re=>refine' pe_callTy (hn:=zeu) (hdb:=zet) ?Ue zps Z.n_tuple bt_tuple ?Ve rfl rfl;(case Ue=>exact call_tuple_of);case Ve=>refine' pa_cons (pq 7 (visL zpp) zom zon) pa_nil ?We;case We=>rfl
  obtain⟨kA,tA,fA,tv,fv,eb,nk,ek,nt,et,rt,nf,ef,rf⟩:=BkAt.open hb
  have tl:tv.length=ts.length:=by rw [RdA.length rt,List.length_map]
  have ok8:=ok.sl
  have ok4:=ok.k4
  have ok1:=ok.k1
  refine⟨_,rfl,_,rfl,b,_,1,.ref tA,rfl,rfl,SqT.of eb,rfl,tA,tv,rfl,.inl (SqL.of et),_,_,rfl,rfl,?_⟩
  refine⟨p,_,rfl,hp,by omega,by omega,fun r H1 r0 r1 p1 s1=>?_⟩
  have w1:Went p H H1:=⟨p1,s1⟩
  dsimp only [gName]
  refine seq_mid (fun σ' H'=>∃ (wd:Str) (pl:Addr) (ps':List Str),σ'=[some (.ref p),some (.ref b),some (.ref a),some (.int 2),some (.int r),some (.str wd),some (.ref pl),none]∧Went p H H'∧pl≠p∧H' pl=some (.lst (ps'.map V.str))∧ps'.length≤2∧(∀ l,IsTms fs (meant ps) l ps'→IsSy ks ts fs (meant ps) (.node (.leaf wd::l)))∧Fit 0 12 (.leaf wd)) ?_ (fun go=>?_)
  ·rintro σ' H5 ⟨wd,pl,ps',rfl,w5,n5,e5,l5,mk,fw⟩
   refine⟨_,rfl,pl,rfl,⟨_,SqL.of e5⟩,fun cl C ex s0 Hc=>?_⟩
   refine comp_it1 (ps'.map V.str).length (fun i ys7 H7=>Went p H5 H7∧Paired (fun y k=>IsDr fs ps k 2 H7 y) ys7 (ps'.take i)) (fun i y=>(ps'.map V.str)[i]? = some y) ⟨Went.refl w5.pot,.nil⟩ (by rw [List.length_map]; exact Nat.le_trans l5 (by decide))
    (fun i ys7 H7 hi _ h=>go_list (SqL.of (h.1.at n5 e5)) hi) (fun ys7 H7 _ h=>stop_list (SqL.of (h.1.at n5 e5))) ?_ ?_
   ·rintro i y ys7 H7 hi hy7 yl7 ⟨w7,dr7⟩
    rw [List.getElem?_map] at hy7
    obtain⟨k,hk,rfl⟩:=Option.map_eq_some_iff.mp hy7
    refine⟨_,rfl,_,rfl,_,rfl,_,rfl,_,rfl,?_⟩
    refine⟨p,b,a,ps,k,ks,ts,fs,rfl,w7.pot,RdV.went hb (w5.trans w7).same,ok,hs.went hp (w5.trans w7).same,hl,hn,fun v H8 hv8 w8=>⟨w7.trans w8,?_⟩⟩
    rw [List.take_succ,hk]
    have h7:Paired (fun y k=>IsDr fs ps k 2 H8 y) ys7 (ps'.take i):=Paired.mapP dr7 fun y k z=>IsDr.keep z (pot_tups w7.pot w8.same)
    exact paired_snoc (F:=fun y k=>IsDr fs ps k 2 H8 y) hv8 h7
   ·rintro ys7 H7 yl7 ⟨w7,dr7⟩ D2 hD2
    rw [List.length_map,List.take_length] at dr7
    have w8:Went p H5 (upd H7 D2 (.lst ys7)):=w7.new hD2 _
    have dr8:Paired (fun y k=>IsDr fs ps k 2 (upd H7 D2 (.lst ys7)) y) ys7 ps':=Paired.mapP dr7 fun y k z=>IsDr.keep z (Same.tups (same_new hD2 (.lst ys7)))
    have w9:=w5.trans w8
    refine⟨_,rfl,D2,ys7,rfl,rfl,SqL.of upd_same,fun v hv7=>(paired_mem dr8 hv7).elim fun k hk=>IsDr.thg hk.2,_,rfl,?_⟩
    by_cases hany:(ys7.any fun v=>decide (v=.non))=true
    ·refine ifT hany ⟨(by show 2≤sizeLine; decide),fun L hL=>⟨_,rfl,p,2,rfl,w9.pot.keep (same_new hL _),by decide,by decide,fun r2 H9 r20 r21 p9 s9=>?_⟩⟩
     have wL:=w9.new hL (.lst [.str "and",.str "or"])
     have nL:L≠p:=Ne.symm (w9.ne hL)
     have wz:=wL.mk1 p9 s9
     have fin:∀ w:Str,w="and"∨w="or"→∀ t,H9 t=none→Q (.ref t) (upd H9 t (.tup [.str w])):=fun w hw t ht=>q _ _ (.node [.leaf w]) (.node upd_same (.cons (.leaf _) .nil)) (.conn hw (by decide) .nil)
      ((Fit.node (FitA.cons (Fit.wd w (by rcases hw with rfl | rfl <;> simp)) FitA.nil)).mono (by decide) (by decide)) (wz.new ht _)
     have hc:r2=0∨r2=1:=by omega
     rcases hc with rfl | rfl
     ·exact⟨L,_,0,.str "and",rfl,rfl,SqL.of (s9 _ _ nL upd_same),rfl,(by show 1≤sizeLine; decide),fin _ (.inl rfl)⟩
     ·exact⟨L,_,1,.str "or",rfl,rfl,SqL.of (s9 _ _ nL upd_same),rfl,(by show 1≤sizeLine; decide),fin _ (.inr rfl)⟩
    ·refine ifF hany ?_
     obtain⟨l,l1,l2,l3⟩:=drs_of dr8 (Bool.eq_false_iff.mpr hany)
     refine⟨_,rfl,(by show 1≤sizeLine; decide),fun t1 ht1=>?_⟩
     have u1:upd (upd H7 D2 (.lst ys7)) t1 (.tup [.str wd]) D2=some (.lst ys7):=by rw [upd_ne (ne_of_none upd_same ht1)]; exact upd_same
     refine⟨_,rfl,D2,ys7,rfl,.inl ⟨SqL.of u1,fun t2 ht2=>?_⟩⟩
     have s1:=same_new ht1 (.tup [.str wd])
     have s2:=same_new ht2 (.tup ys7)
     have yl2:ys7.length≤2:=by rw [yl7,List.length_map]; exact l5
     refine cat_of (s2 _ _ upd_same) upd_same (Nat.le_trans (show 1+ys7.length≤3 by omega) (by decide)) fun pp H9 e9 s9=>?_
     have s8:=(s1.trans s2).trans s9
     refine q _ _ (.node (.leaf wd::l)) (.node e9 (.cons (.leaf _) (tupA_keep (Same.tups s8) l1))) (mk l l2) ?_ (w9.mk1 (w9.pot.keep s8) s8.x)
     exact(Fit.node (FitA.cons (fw.mono (Nat.zero_le 2) (Nat.le_refl _)) (FitA.all (n:=2) l3 (by rw [IsTms.length l2]; exact l5)))).mono (by decide) (by decide)
  ·have b1:=RdV.went hb s1
   obtain⟨kB,tB,fB,tv',fv',eb1,nk1,ek1,nt1,et1,rt1,_⟩:=BkAt.open b1
   refine⟨_,rfl,_,rfl,b,_,1,.ref tB,rfl,rfl,SqT.of eb1,rfl,tB,tv',rfl,.inl (SqL.of et1),_,_,rfl,rfl,_,rfl,?_⟩
   by_cases hr:r<tv'.length
   ·have hr1:r.toNat<tv'.length:=by omega
    obtain⟨d,ed,rd⟩:=RdA.getV rt1 (i:=r.toNat) (x:=tv'[r.toNat]) (by simp [hr1])
    rw [List.getElem?_map] at ed
    obtain⟨g,eg,rfl⟩:=Option.map_eq_some_iff.mp ed
    have hg:=List.mem_of_getElem? eg
    obtain⟨q1,q2,eq,e1,n2,e2⟩:=tieL_open rd
    refine ifT (by simpa using hr) ⟨_,rfl,b,_,1,.ref tB,rfl,rfl,SqT.of eb1,rfl,_,rfl,tB,tv',r,tv'[r.toNat],rfl,rfl,SqL.of et1,atI_int r0 (by simp [hr1]),?_⟩
    rw [eq]
    exact⟨q1,_,rfl,SqT.of e1,rfl,_,_,rfl,_,_,rfl,rfl,go _ _ ⟨g.nm,q2,g.ps,rfl,w1,n2,e2,(ok.tn g hg).2.1,fun l hl=>.tie hg hl,Fit.nm (ok.tn g hg).1.1⟩⟩
   ·refine ifF (by simpa using hr) ⟨_,rfl,b,_,0,.ref kB,rfl,rfl,SqT.of eb1,rfl,_,rfl,_,rfl,b,_,0,.ref kB,rfl,rfl,SqT.of eb1,rfl,kB,_,rfl,.inl (SqL.of ek1),?_⟩
    rw [List.length_map]
    refine⟨p,_,rfl,p1,by omega,by omega,fun r2 H2 r20 r21 p2 s2=>?_⟩
    have hr2:r2.toNat<ks.length:=by omega
    have hk:ks[r2.toNat]? = some ks[r2.toNat]:=by simp [hr2]
    refine⟨kB,_,r2,.str ks[r2.toNat],rfl,rfl,SqL.of (s2 _ _ nk1 ek1),atI_int r20 (by rw [List.getElem?_map,hk]; rfl),(by show 1≤sizeLine; decide),fun L hL=>?_⟩
    refine⟨L,2,_,rfl,rfl,upd_same,by decide,by decide,(by show 1*2≤sizeLine; decide),fun L2 hL2=>⟨_,_,rfl,?_⟩⟩
    have w2:=((w1.mk1 p2 s2).new hL (.lst [.str ks[r2.toNat]]))
    refine go _ _ ⟨"=",L2,[ks[r2.toNat],ks[r2.toNat]],rfl,w2.new hL2 _,Ne.symm (w2.ne hL2),upd_same,Nat.le_refl 2,fun l hl=>?_,(Fit.wd _ (by simp)).mono (Nat.le_refl _) (by decide)⟩
    cases hl with
    | cons a1 r1=>
     cases r1 with
     | cons a2 r2=>
      cases r2
      exact .eq a1 a2
end
theorem zp0:LD "_law_atom":=by decide +kernel
theorem zp1:LD "_law_saying_in":=by decide +kernel
theorem zp2:LD "_law_way":=by decide +kernel
theorem zp3:LS "_law_way":=by decide +kernel
def bS:Nat→Nat
 | 0=>222
 | n+1=>3*bS n+11
theorem bS_222:∀ n,222≤bS n
 | 0=>Nat.le_refl _
 | n+1=>by rw [bS]; have:=bS_222 n; omega
theorem sys_snoc {ks:List Str} {ts:List TieR} {fs:List FunR} {S:Str→Option Str} {a:Tr} (h:IsSy ks ts fs S a):∀ {l:List Tr},IsSys ks ts fs S l→IsSys ks ts fs S (l++[a])
 | _,.nil=>.cons h .nil
 | _,.cons f r=>.cons f (sys_snoc h r)
theorem pick (ws:List Str) {r:Int} (h0:0≤r) (h1:r<ws.length):∃ w∈ws,atI (ws.map V.str) r=some (.str w):=by
 have h:r.toNat<ws.length:=by omega
 exact⟨ws[r.toNat],List.getElem_mem h,atI_int h0 (by rw [List.getElem?_map]; simp [h])⟩
theorem manys:∀ j,j<6→∃ c:Nat,c≤3∧([V.int 0,V.int 1,V.int 2,V.int 2,V.int 2,V.int 3]:List V)[j]? = some (.int c):=by
 intro j hj
 have : j=0∨j=1∨j=2∨j=3∨j=4∨j=5:=by omega
 rcases this with rfl | rfl | rfl | rfl | rfl | rfl
 ·exact⟨0,by decide,rfl⟩
 ·exact⟨1,by decide,rfl⟩
 ·exact⟨2,by decide,rfl⟩
 ·exact⟨2,by decide,rfl⟩
 ·exact⟨2,by decide,rfl⟩
 ·exact⟨3,by decide,rfl⟩
def varMenu:List Str:=["x","y","z","all","not","r","f"]
theorem varMenu_nm:∀ k∈varMenu,isNm k:=by unfold isNm; decide +kernel
theorem allsome:∀ w∈[("all":Str),"all","some"],w="all"∨w="some":=by
 intro w hw
 rcases List.mem_cons.mp hw with h | h
 ·exact .inl h
 rcases List.mem_cons.mp h with h | h
 ·exact .inl h
 ·exact .inr (List.mem_singleton.mp h)
section
variable {P:Program} {w:World} {K:PySem.W.Frag} {mg:Str→Option Value} {base:Heap}
abbrev s_law_saying_in:Stmt:=top 47
theorem zp4:FnScope ["_law_pot_here","_law_book_here","_law_scope","_law_deep","_law_way","_law_many","_law_word","_law_name","_law_kind"] ["_law_pot_here","_law_book_here","_law_scope","_law_deep"] (defScope s_law_saying_in):=⟨rfl,rfl,rfl,by decide +kernel,rfl,by decide +kernel,by decide +kernel⟩
theorem zp5:LN .globalImplicit s_law_saying_in "_law_atom":=by decide +kernel
theorem zp6:LN .cell s_law_saying_in "_law_book_here":=by decide +kernel
theorem zp7:LN .cell s_law_saying_in "_law_deep":=by decide +kernel
theorem zp8:LN .globalImplicit s_law_saying_in "_law_draw":=by decide +kernel
theorem zp9:LN .local s_law_saying_in "_law_kind":=by decide +kernel
theorem zqa:LN .local s_law_saying_in "_law_many":=by decide +kernel
theorem zqb:LN .local s_law_saying_in "_law_name":=by decide +kernel
theorem zqc:LN .cell s_law_saying_in "_law_pot_here":=by decide +kernel
theorem zqd:LN .globalImplicit s_law_saying_in "_law_saying_in":=by decide +kernel
theorem zqe:LN .cell s_law_saying_in "_law_scope":=by decide +kernel
theorem zqf:LN .local s_law_saying_in "_law_way":=by decide +kernel
theorem zqg:LN .local s_law_saying_in "_law_word":=by decide +kernel
theorem zqh:LN .globalImplicit s_law_saying_in "len":=by decide +kernel
theorem zqi:LN .globalImplicit s_law_saying_in "range":=by decide +kernel
theorem zqj:LN .globalImplicit s_law_saying_in "tuple":=by decide +kernel
abbrev QS14:Scope:={kind:=PySem.ScopeKind.function,names:=[ (PySem.Str.ofString ".0",PySem.NameKind.local),(PySem.Str.ofString "_law_k",PySem.NameKind.local),(PySem.Str.ofString "_law_saying_in",PySem.NameKind.globalImplicit),(PySem.Str.ofString "_law_book_here",PySem.NameKind.free),(PySem.Str.ofString "_law_deep",PySem.NameKind.free),(PySem.Str.ofString "_law_pot_here",PySem.NameKind.free),(PySem.Str.ofString "_law_scope",PySem.NameKind.free)],isGenerator:=false,isCoroutine:=false,more:=[]:PySem.Scope}
theorem zqk:CompSc 1 ["_law_k","_law_pot_here","_law_book_here","_law_scope","_law_deep","_law_way","_law_many","_law_word","_law_name","_law_kind"] ["_law_pot_here","_law_book_here","_law_scope","_law_deep","_law_way","_law_many","_law_word","_law_name","_law_kind"] (defScope s_law_saying_in) QS14:=⟨rfl,by decide +kernel,by decide +kernel,by decide +kernel,by decide +kernel,rfl,by decide +kernel⟩
theorem zql:LC .free QS14 "_law_book_here":=by decide +kernel
theorem zqm:LC .free QS14 "_law_deep":=by decide +kernel
theorem zqn:LC .local QS14 "_law_k":=by decide +kernel
theorem zqo:LC .free QS14 "_law_pot_here":=by decide +kernel
theorem zqp:LC .globalImplicit QS14 "_law_saying_in":=by decide +kernel
theorem zqq:LC .free QS14 "_law_scope":=by decide +kernel
def spSin (n:Nat):Sp:=fun vs H Q _=>∃ (p b a:Addr) (ps:List (Str×Str)) (ks:List Str) (ts:List TieR) (fs:List FunR),vs=[.ref p,.ref b,.ref a,.int n]∧PotAt H p∧BkAt H p b ks ts fs∧BookOk ks ts fs∧ScL H a ps∧ps.length≤3∧(∀ q∈ps,isNm q.1)∧∀ v H' t,Tup H' v t→IsSy ks ts fs (meant ps) t→Fit (3+n) (bS n) t→Went p H H'→Q v H'
def spSin':Nat→Sp
 | 0=>fun _ _ _ _=>False
 | n+1=>spSin n
theorem ok_sin_of (F:FunAt K mg "_law_saying_in" s_law_saying_in ["_law_pot_here","_law_book_here","_law_scope","_law_deep"]) (Z:Bl mg) (D_law_draw:Def P w K mg base "_law_draw" 1 ["_law_pot_here","_law_many"] spDraw) (D_law_atom:Def P w K mg base "_law_atom" 6 ["_law_pot_here","_law_book_here","_law_scope","_law_deep"] spAtom) (n:Nat)
  (D_law_saying_in:Def P w K mg base "_law_saying_in" (n+6) ["_law_pot_here","_law_book_here","_law_scope","_law_deep"] (spSin' n)):Def P w K mg base "_law_saying_in" (n+7) ["_law_pot_here","_law_book_here","_law_scope","_law_deep"] (spSin n):=by
 have SC:=zp4
 refine F.mk' (k:=n+6) zp4 (fun vs H Q E h=>?_) (fun f cdv A outer s H vs Q E hr h=>?_)
 ·obtain⟨p,b,a,ps,ks,ts,fs,rfl,_⟩:=h
  rfl
 ·obtain⟨p,b,a,ps,ks,ts,fs,rfl,hp,hb,ok,hs,hl,hn,q⟩:=h
  refine'⟨_,?derivation,?_⟩
  case derivation=>refine' pss_cons ?Aa ?Ba;(case Aa=>refine' ps_augS (pq 0 (visC zqc) zbn zbo) ?Ca get_list ?Da ip_sub set_list;(case Ca=>exact pe_int);case Da=>exact pe_int);case Ba=>refine' pss_cons ?Ea ?Fa;(case Ea=>refine' ps_set (i:=4) (x:=Str.ofString "_law_way") ?Ga ?Ha ?Ia ?Ja ?Ka ?La;(case Ga=>exact SC.nd);(case Ha=>exact rfl);(case Ia=>exact(Or.inl zqf));(case Ja=>refine' pe_def (hdb:=zbe) D_law_draw (hr.mono (by omega)) zp8 ?Ma rfl rfl;case Ma=>refine' pa_cons (pq 0 (visC zqc) zbn zbo) ?Na ?Oa;(case Na=>refine' pa_cons ?Pa pa_nil ?Qa;(case Pa=>exact pe_int);case Qa=>rfl);case Oa=>rfl);(case Ka=>rfl);case La=>exact .inl rfl);case Fa=>refine' pss_cons ?Ra ?Sa;(case Ra=>refine' ps_if ?Ta ?Ua pss_nil;(case Ta=>refine' PW.pt ?Va;case Va=>refine' pw_or ?Wa ?Xa;(case Wa=>refine' pt_cmpR op_eq (pq 3 (visC zp7) zod zoe) ?Ya (nomark _);case Ya=>exact pe_int);case Xa=>refine' pw_or ?Za ?Ab;(case Za=>refine' pt_cmpR op_lt ?Bb ?Cb (nomark _);(case Bb=>refine' pe_ix ix_list (pq 0 (visC zqc) zbn zbo) ?Db ?Eb;(case Db=>exact pe_int);case Eb=>intro _ _;exact rfl);case Cb=>exact pe_int);case Ab=>refine' pw_or1 ?Fb;case Fb=>refine' PW.pt ?Gb;case Gb=>refine' pw_and ?Hb ?Ib;(case Hb=>refine' pt_cmpR op_lt (pq 4 (visL zqf) zp2 zp3) ?Jb (nomark _);case Jb=>exact pe_int);case Ib=>refine' pw_and1 ?Kb;case Kb=>refine' pt_cmpR (op_neL0 hr.units0) (pq 2 (visC zqe) znk znl) ?Lb (nomark _);case Lb=>refine' pe_lst pa_nil);case Ua=>refine' pss_one ?Mb;case Mb=>refine' ps_ret ?Nb;case Nb=>refine' pe_def (hdb:=zp0) D_law_atom (hr.mono (by omega)) zp5 ?Ob rfl rfl;case Ob=>refine' pa_cons (pq 0 (visC zqc) zbn zbo) ?Pb ?Qb;(case Pb=>refine' pa_cons (pq 1 (visC zp6) zob zoc) ?Rb ?Sb;(case Rb=>refine' pa_cons (pq 2 (visC zqe) znk znl) ?Tb ?Ub;(case Tb=>refine' pa_cons ?Vb pa_nil ?Wb;(case Vb=>exact pe_int);case Wb=>rfl);case Ub=>rfl);case Sb=>rfl);case Qb=>rfl);case Sa=>refine' pss_cons ?Xb ?Yb;(case Xb=>refine' ps_if ?Zb ?Ac pss_nil;(case Zb=>refine' pt_cmpR op_eq (pq 4 (visL zqf) zp2 zp3) ?Bc (nomark _);case Bc=>exact pe_int);case Ac=>refine' pss_one ?Cc;case Cc=>refine' ps_ret ?Dc;case Dc=>refine' pe_tup ?Ec;case Ec=>refine' pa_cons ?Fc ?Gc ?Hc;(case Fc=>exact pe_str);(case Gc=>refine' pa_cons ?Ic pa_nil ?Jc;(case Ic=>refine' pe_def (hdb:=zp1) D_law_saying_in (hr.mono (by omega)) zqd ?Kc rfl rfl;case Kc=>refine' pa_cons (pq 0 (visC zqc) zbn zbo) ?Lc ?Mc;(case Lc=>refine' pa_cons (pq 1 (visC zp6) zob zoc) ?Nc ?Oc;(case Nc=>refine' pa_cons (pq 2 (visC zqe) znk znl) ?Pc ?Qc;(case Pc=>refine' pa_cons ?Rc pa_nil ?Sc;(case Rc=>refine' pe_op op_sub (pq 3 (visC zp7) zod zoe) ?Tc;case Tc=>exact pe_int);case Sc=>rfl);case Qc=>rfl);case Oc=>rfl);case Mc=>rfl);case Jc=>rfl);case Hc=>rfl);case Yb=>refine' pss_cons ?Uc ?Vc;(case Uc=>refine' ps_if ?Wc ?Xc pss_nil;(case Wc=>refine' PW.pt ?Yc;case Yc=>refine' pw_or ?Zc ?Ad;(case Zc=>refine' pt_cmpR op_lt (pq 4 (visL zqf) zp2 zp3) ?Bd (nomark _);case Bd=>exact pe_int);case Ad=>refine' pw_or1 ?Cd;case Cd=>refine' pt_cmpR op_eq ?Dd ?Ed (nomark _);(case Dd=>refine' pe_callB (hn:=zbw) (hdb:=zbv) call_len_seq zqh Z.n_len bt_len ?Fd rfl rfl;case Fd=>refine' pa_cons (pq 2 (visC zqe) znk znl) pa_nil ?Gd;case Gd=>rfl);case Ed=>exact pe_int);case Xc=>refine' pss_cons ?Hd ?Id;(case Hd=>refine' ps_set (i:=5) (x:=Str.ofString "_law_many") ?Jd ?Kd ?Ld ?Md ?Nd ?Od;(case Jd=>exact SC.nd);(case Kd=>exact rfl);(case Ld=>exact(Or.inl zqa));(case Md=>refine' pe_ix ix_list ?Pd ?Qd ?Rd;(case Pd=>refine' pe_lst ?Sd;case Sd=>refine' pa_cons ?Td ?Ud ?Vd;(case Td=>exact pe_int);(case Ud=>refine' pa_cons ?Wd ?Xd ?Yd;(case Wd=>exact pe_int);(case Xd=>refine' pa_cons ?Zd ?Ae ?Be;(case Zd=>exact pe_int);(case Ae=>refine' pa_cons ?Ce ?De ?Ee;(case Ce=>exact pe_int);(case De=>refine' pa_cons ?Fe ?Ge ?He;(case Fe=>exact pe_int);(case Ge=>refine' pa_cons ?Ie pa_nil ?Je;(case Ie=>exact pe_int);case Je=>rfl);case He=>rfl);case Ee=>rfl);case Be=>rfl);case Yd=>rfl);case Vd=>rfl);(case Qd=>refine' pe_def (hdb:=zbe) D_law_draw (hr.mono (by omega)) zp8 ?Ke rfl rfl;case Ke=>refine' pa_cons (pq 0 (visC zqc) zbn zbo) ?Le ?Me;(case Le=>refine' pa_cons ?Ne pa_nil ?Oe;(case Ne=>exact pe_int);case Oe=>rfl);case Me=>rfl);case Rd=>intro _ _;exact rfl);(case Nd=>rfl);case Od=>exact .inl rfl);case Id=>refine' pss_one ?Pe;case Pe=>refine' ps_ret ?Qe;case Qe=>refine' pe_op op_catTT ?Re ?Se;(case Re=>refine' pe_tup ?Te;case Te=>refine' pa_cons ?Ue pa_nil ?Ve;(case Ue=>refine' pe_ix ix_list ?We ?Xe ?Ye;(case We=>refine' pe_lst ?Ze;case Ze=>refine' pa_cons ?Af ?Bf ?Cf;(case Af=>exact pe_str);(case Bf=>refine' pa_cons ?Df pa_nil ?Ef;(case Df=>exact pe_str);case Ef=>rfl);case Cf=>rfl);(case Xe=>refine' pe_op op_mod (pq 4 (visL zqf) zp2 zp3) ?Ff;case Ff=>exact pe_int);case Ye=>intro _ _;exact rfl);case Ve=>rfl);case Se=>refine' pe_callTy (hn:=zeu) (hdb:=zet) ?Gf zqj Z.n_tuple bt_tuple ?Hf rfl rfl;(case Gf=>exact call_tuple_of);case Hf=>refine' pa_cons ?If pa_nil ?Jf;(case If=>refine' pe_comp noxe rfl zqk.at ?Kf ?Lf ?Mf ?Nf;(case Kf=>refine' pi_range1 zqi Z.n_range ?Of rfl;case Of=>refine' pa_cons (pq 5 (visL zqa) zbj zbk) pa_nil ?Pf;case Pf=>rfl);(case Lf=>intro _ _ _ _ _;refine' pg_name (i:=0) zqk.nd rfl (locO zqn) (.inr (lookup_relabel_local zqn)));(case Mf=>intro _ _ _ _ _;refine' pe_def (hdb:=zp1) D_law_saying_in (hr.mono (by omega)) (glO zqp) ?Qf rfl rfl;case Qf=>refine' pa_cons (pq 1 (visF zqo) zbn zbo) ?Rf ?Sf;(case Rf=>refine' pa_cons (pq 2 (visF zql) zob zoc) ?Tf ?Uf;(case Tf=>refine' pa_cons (pq 3 (visF zqq) znk znl) ?Vf ?Wf;(case Vf=>refine' pa_cons ?Xf pa_nil ?Yf;(case Xf=>refine' pe_op op_sub (pq 4 (visF zqm) zod zoe) ?Zf;case Zf=>exact pe_int);case Yf=>rfl);case Wf=>rfl);case Uf=>rfl);case Sf=>rfl);case Nf=>intro _; rfl);case Jf=>rfl);case Vc=>refine' pss_cons ?Ag ?Bg;(case Ag=>refine' ps_set (i:=6) (x:=Str.ofString "_law_word") ?Cg ?Dg ?Eg ?Fg ?Gg ?Hg;(case Cg=>exact SC.nd);(case Dg=>exact rfl);(case Eg=>exact(Or.inl zqg));(case Fg=>refine' pe_ix ix_list ?Ig ?Jg ?Kg;(case Ig=>refine' pe_lst ?Lg;case Lg=>refine' pa_strs (by repeat constructor));(case Jg=>refine' pe_def (hdb:=zbe) D_law_draw (hr.mono (by omega)) zp8 ?Mg rfl rfl;case Mg=>refine' pa_cons (pq 0 (visC zqc) zbn zbo) ?Ng ?Og;(case Ng=>refine' pa_cons ?Pg pa_nil ?Qg;(case Pg=>exact pe_int);case Qg=>rfl);case Og=>rfl);case Kg=>intro _ _;exact rfl);(case Gg=>rfl);case Hg=>exact .inl rfl);case Bg=>refine' pss_cons ?Rg ?Sg;(case Rg=>refine' ps_set (i:=7) (x:=Str.ofString "_law_name") ?Tg ?Ug ?Vg ?Wg ?Xg ?Yg;(case Tg=>exact SC.nd);(case Ug=>exact rfl);(case Vg=>exact(Or.inl zqb));(case Wg=>refine' pe_ix ix_list ?Zg ?Ah ?Bh;(case Zg=>refine' pe_lst ?Ch;case Ch=>refine' pa_strs (by repeat constructor));(case Ah=>refine' pe_def (hdb:=zbe) D_law_draw (hr.mono (by omega)) zp8 ?Dh rfl rfl;case Dh=>refine' pa_cons (pq 0 (visC zqc) zbn zbo) ?Eh ?Fh;(case Eh=>refine' pa_cons ?Gh pa_nil ?Hh;(case Gh=>exact pe_int);case Hh=>rfl);case Fh=>rfl);case Bh=>intro _ _;exact rfl);(case Xg=>rfl);case Yg=>exact .inl rfl);case Sg=>refine' pss_cons ?Ih ?Jh;(case Ih=>refine' ps_set (i:=8) (x:=Str.ofString "_law_kind") ?Kh ?Lh ?Mh ?Nh ?Oh ?Ph;(case Kh=>exact SC.nd);(case Lh=>exact rfl);(case Mh=>exact(Or.inl zp9));(case Nh=>refine' pe_ix ix_list ?Qh ?Rh ?Sh;(case Qh=>refine' pe_ix ix_tup (pq 1 (visC zp6) zob zoc) ?Th ?Uh;(case Th=>exact pe_int);case Uh=>intro _ _;exact rfl);(case Rh=>refine' pe_def (hdb:=zbe) D_law_draw (hr.mono (by omega)) zp8 ?Vh rfl rfl;case Vh=>refine' pa_cons (pq 0 (visC zqc) zbn zbo) ?Wh ?Xh;(case Wh=>refine' pa_cons ?Yh pa_nil ?Zh;(case Yh=>refine' pe_callB (hn:=zbw) (hdb:=zbv) call_len_seq zqh Z.n_len bt_len ?Ai rfl rfl;case Ai=>refine' pa_cons ?Bi pa_nil ?Ci;(case Bi=>refine' pe_ix ix_tup (pq 1 (visC zp6) zob zoc) ?Di ?Ei;(case Di=>exact pe_int);case Ei=>intro _ _;exact rfl);case Ci=>rfl);case Zh=>rfl);case Xh=>rfl);case Sh=>intro _ _;exact rfl);(case Oh=>rfl);case Ph=>exact .inl rfl);case Jh=>refine' pss_one ?Fi;case Fi=>refine' ps_ret ?Gi;case Gi=>refine' pe_tup ?Hi;case Hi=>refine' pa_cons (pq 6 (visL zqg) zph zpi) ?Ii ?Ji;(case Ii=>refine' pa_cons (pq 7 (visL zqb) zcy zcz) ?Ki ?Li;(case Ki=>refine' pa_cons (pq 8 (visL zp9) zng znh) ?Mi ?Ni;(case Mi=>refine' pa_cons ?Oi pa_nil ?Pi;(case Oi=>refine' pe_def (hdb:=zp1) D_law_saying_in (hr.mono (by omega)) zqd ?Qi rfl rfl;case Qi=>refine' pa_cons (pq 0 (visC zqc) zbn zbo) ?Ri ?Si;(case Ri=>refine' pa_cons (pq 1 (visC zp6) zob zoc) ?Ti ?Ui;(case Ti=>refine' pa_cons ?Vi ?Wi ?Xi;(case Vi=>refine' pe_op op_cat (pq 2 (visC zqe) znk znl) ?Yi;case Yi=>refine' pe_lst ?Zi;case Zi=>refine' pa_cons ?Aj pa_nil ?Bj;(case Aj=>refine' pe_tup ?Cj;case Cj=>refine' pa_cons (pq 7 (visL zqb) zcy zcz) ?Dj ?Ej;(case Dj=>refine' pa_cons (pq 8 (visL zp9) zng znh) pa_nil ?Fj;case Fj=>rfl);case Ej=>rfl);case Bj=>rfl);(case Wi=>refine' pa_cons ?Gj pa_nil ?Hj;(case Gj=>refine' pe_op op_sub (pq 3 (visC zp7) zod zoe) ?Ij;case Ij=>exact pe_int);case Hj=>rfl);case Xi=>rfl);case Ui=>rfl);case Si=>rfl);case Pi=>rfl);case Ni=>rfl);case Li=>rfl);case Ji=>rfl
  obtain⟨x0,x1,x2,ep,ha,hb0,hb1⟩:=id hp
  refine⟨_,rfl,p,_,2,.int x2,rfl,rfl,by decide,SqL.of ep,rfl,_,_,rfl,rfl,p,_,2,2,rfl,rfl,ep,rfl,?_⟩
  generalize hHA:upd H p (.lst (List.set [V.int x0,V.int x1,V.int x2] 2 (V.int (x2-1))))=HA
  have wA:Went p H HA:=⟨⟨x0,x1,x2-1,by rw [← hHA]; exact upd_same,ha,hb0,hb1⟩,by rw [← hHA]; exact SameX.upd _ _ _⟩
  refine⟨_,rfl,p,12,rfl,wA.pot,by decide,by decide,fun r H1 r0 r1 p1 s1=>?_⟩
  have w1:Went p H H1:=wA.mk1 p1 s1
  dsimp only [gName]
  have b1:=RdV.went hb w1.same
  have sc1:∀ {H'},Went p H H'→ScL H' a ps:=fun w'=>hs.went hp w'.same
  refine seq_mid (fun σ' H'=>σ'=[some (.ref p),some (.ref b),some (.ref a),some (.int n),some (.int r),none,none,none,none]∧Went p H H'∧n≠0) ?_ (fun go=>?_)
  ·rintro σ' H5 ⟨rfl,w5,n0⟩
   obtain⟨m,rfl⟩:∃ m,n=m+1:=⟨n-1,by omega⟩
   have sub:∀ (a':Addr) (ps':List (Str×Str)) (H':Hp) (R:VK),Went p H H'→ScL H' a' ps'→ps'.length≤3→(∀ q∈ps',isNm q.1)→(∀ v H'' t,Tup H'' v t→IsSy ks ts fs (meant ps') t→Fit (3+m) (bS m) t→Went p H' H''→R v H'')→spSin' (m+1) [.ref p,.ref b,.ref a',.int (((m+1:Nat):Int) - 1)] H' R E0:=fun a' ps' H' R w' s' l' n' k'=>by
    have e:((m+1:Nat):Int) - 1=(m:Int):=by omega
    rw [e]
    exact⟨p,b,a',ps',ks,ts,fs,rfl,w'.pot,RdV.went hb w'.same,ok,s',l',n',k'⟩
   refine⟨_,rfl,rfl,_,rfl,?_⟩
   by_cases r3:r=3
   ·refine ifT (by simp [r3]) ⟨_,rfl,_,rfl,_,rfl,_,rfl,_,_,rfl,rfl,?_⟩
    refine sub a ps H5 _ w5 (sc1 w5) hl hn fun v H6 t tv st ft w6=>⟨(by show 2≤sizeLine; decide),fun L hL=>?_⟩
    refine q _ _ (.node [.leaf "not",t]) (.node upd_same (.cons (.leaf _) (.cons (tup_keep (Same.tups (same_new hL _)) tv) .nil))) (.not st) ?_ ((w5.trans w6).new hL _)
    refine(Fit.node (FitA.cons ((Fit.wd _ (by simp)).mono (Nat.zero_le _) (Nat.le_refl _)) (FitA.cons ft FitA.nil))).mono (by omega) ?_
    rw [bS]; omega
   refine ifF (by simp [r3]) ⟨_,rfl,_,_,rfl,rfl,_,rfl,?_⟩
   refine ite_both ?body (fun _ h=>ifT rfl h) (fun _ h=>?other)
   case body=>
    refine⟨(by show 6≤sizeLine; decide),fun L hL=>⟨_,rfl,p,6,rfl,w5.pot.keep (same_new hL _),by decide,by decide,fun r2 H6 r20 r21 p6 s6=>?_⟩⟩
    obtain⟨c,c3,ec⟩:=manys r2.toNat (by omega)
    have nL:L≠p:=Ne.symm (w5.ne hL)
    refine⟨L,_,r2,.int c,rfl,rfl,SqL.of (s6 _ _ nL upd_same),atI_int r20 ec,?_⟩
    have w6:=(w5.new hL (.lst [V.int 0,V.int 1,V.int 2,V.int 2,V.int 2,V.int 3])).mk1 p6 s6
    have conn:∀ wd:Str,wd="and"∨wd="or"→∀ (H7:Hp) (t1:Addr),H7 t1=none→Went p H H7→∀ (Qr:VK),(∀ l D2 ys H8,TupA H8 ys l→IsSys ks ts fs (meant ps) l→l.length≤3→(∀ t∈l,Fit (3+m) (bS m) t)→Went p (upd H7 t1 (.tup [.str wd])) H8→H8 D2=some (.lst ys)→Qr (.ref D2) H8)→
      iRng1 (tCons (tVar 5) tNil) [some (.ref p),some (.ref b),some (.ref a),some (.int (m+1:Nat)),some (.int r),some (.int c),none,none,none] (upd H7 t1 (.tup [.str wd])) fun J H1=>∀ (cl:List (Str×Addr)) (C:Addr) (ex:List Addr) (s:Shared) (Hc:Hp),CompOk 1 J (gName 0) (tCall (spSin' (m+1)) [] E0 (tCons (tVar 1) (tCons (tVar 2) (tCons (tVar 3) (tCons (tOp (rI0 fun i j=>V.int (i-j)) (tVar 4) (tC (V.int 1))) tNil))))) [some (.ref p),some (.ref b),some (.ref a),some (.int (m+1:Nat)),some (.int r),some (.int c),none,none,none] H1 Qr:=by
     intro wd hwd H7 t1 ht1 w7 Qr kk
     have w8:=w7.new ht1 (.tup [.str wd])
     refine⟨_,rfl,c,rfl,by omega,by omega,fun cl C ex s0 Hc=>?_⟩
     have ec0:(c:Int).toNat=c:=by omega
     refine comp_it1 (c:Int).toNat (fun i ys H9=>Went p (upd H7 t1 (.tup [.str wd])) H9∧∃ l,TupA H9 ys l∧IsSys ks ts fs (meant ps) l∧l.length=i∧∀ t∈l,Fit (3+m) (bS m) t) (fun _ _=>True) ⟨Went.refl w8.pot,[],.nil,.nil,rfl,fun _ z=>nomatch z⟩ (by rw [ec0]; exact Nat.le_trans c3 (by decide))
      (fun i ys H9 hi _ _=>⟨(go_rng hi).1,fun x H' y=>⟨((go_rng hi).2 x H' y).1,trivial⟩⟩) (fun ys H9 _ _=>stop_rng) ?_ ?_
     ·rintro i y ys H9 hi-yl ⟨w9,l,l1,l2,l3,l4⟩
      refine⟨_,rfl,_,rfl,_,rfl,_,rfl,_,_,rfl,rfl,?_⟩
      refine sub a ps H9 _ (w8.trans w9) (sc1 (w8.trans w9)) hl hn fun v H10 t tv st ft w10=>⟨w9.trans w10,l++[t],TupA.snoc (tupA_keep (pot_tups w9.pot w10.same) l1) tv,sys_snoc st l2,by rw [List.length_append,l3]; rfl,fun u hu=>?_⟩
      rcases List.mem_append.mp hu with hu | hu
      ·exact l4 u hu
      ·rw [List.mem_singleton.mp hu]; exact ft
     ·rintro ys H9 yl ⟨w9,l,l1,l2,l3,l4⟩ D2 hD2
      exact kk l D2 ys _ (tupA_keep (Same.tups (same_new hD2 _)) l1) l2 (by omega) l4 (w9.new hD2 _) upd_same
    refine⟨(by show 2≤sizeLine; decide),fun L2 hL2=>⟨_,rfl,_,_,rfl,rfl,(by decide:(0:Int)<2),?_⟩⟩
    have w7:=w6.new hL2 (.lst [.str "and",.str "or"])
    have fin:∀ wd:Str,wd="and"∨wd="or"→∀ t1,upd H6 L2 (.lst [.str "and",.str "or"]) t1=none→∀ l D2 ys H8,TupA H8 ys l→IsSys ks ts fs (meant ps) l→l.length≤3→(∀ t∈l,Fit (3+m) (bS m) t)→Went p (upd (upd H6 L2 (.lst [.str "and",.str "or"])) t1 (.tup [.str wd])) H8→H8 D2=some (.lst ys)→
      ∀ t2,H8 t2=none→rCatTT K (.ref t1) (.ref t2) (upd H8 t2 (.tup ys)) Q:=by
     intro wd hwd t1 ht1 l D2 ys H8 l1 l2 l3 l4 w8 eD t2 ht2
     have w9:=(w7.new ht1 (.tup [.str wd])).trans w8
     have s2:=same_new ht2 (.tup ys)
     have e1:H8 t1=some (.tup [.str wd]):=pot_tups (w7.new ht1 (.tup [.str wd])).pot w8.same _ _ upd_same
     have yl:ys.length=l.length:=TupA.length l1
     refine cat_of (s2 _ _ e1) upd_same (Nat.le_trans (show 1+ys.length≤4 by omega) (by decide)) fun pp H9 e9 s9=>?_
     have s8:=s2.trans s9
     refine q _ _ (.node (.leaf wd::l)) (.node e9 (.cons (.leaf _) (tupA_keep (Same.tups s8) l1))) (.conn hwd (by omega) l2) ?_ (w9.mk1 (w9.pot.keep s8) s8.x)
     refine(Fit.node (FitA.cons ((Fit.wd wd (by rcases hwd with rfl | rfl <;> simp)).mono (Nat.zero_le _) (Nat.le_refl _)) (FitA.all (n:=3) l4 l3))).mono (by omega) ?_
     rw [bS]; omega
    have hm2:r % 2=0∨r % 2=1:=by omega
    rcases hm2 with hm2 | hm2
    ·refine⟨L2,_,r % 2,.str "and",rfl,rfl,SqL.of upd_same,by rw [hm2]; rfl,(by show 1≤sizeLine; decide),fun t1 ht1=>?_⟩
     exact conn "and" (.inl rfl) _ t1 ht1 w7 _ fun l D2 ys H8 a1 a2 a3 a4 a5 a6=>⟨D2,ys,rfl,.inl ⟨SqL.of a6,fin "and" (.inl rfl) t1 ht1 l D2 ys H8 a1 a2 a3 a4 a5 a6⟩⟩
    ·refine⟨L2,_,r % 2,.str "or",rfl,rfl,SqL.of upd_same,by rw [hm2]; rfl,(by show 1≤sizeLine; decide),fun t1 ht1=>?_⟩
     exact conn "or" (.inr rfl) _ t1 ht1 w7 _ fun l D2 ys H8 a1 a2 a3 a4 a5 a6=>⟨D2,ys,rfl,.inl ⟨SqL.of a6,fin "or" (.inr rfl) t1 ht1 l D2 ys H8 a1 a2 a3 a4 a5 a6⟩⟩
   case other=>
    obtain⟨bs,ea,pa⟩:=(sc1 w5).ex
    have bl:(bs.map V.ref).length=ps.length:=by rw [List.length_map,Paired.length pa]
    refine⟨_,rfl,a,_,rfl,.inl (SqL.of ea),rfl,_,rfl,?_⟩
    by_cases p3:ps.length=3
    ·exact ifT (by rw [bl,p3]; rfl) h
    refine ifF (by rw [bl]; simp; omega) ?_
    refine⟨(by show 3≤sizeLine; decide),fun L hL=>⟨_,rfl,p,3,rfl,w5.pot.keep (same_new hL _),by decide,by decide,fun r2 H6 r20 r21 p6 s6=>?_⟩⟩
    have nL:L≠p:=Ne.symm (w5.ne hL)
    obtain⟨wd,hwd,ewd⟩:=pick ["all","all","some"] r20 r21
    refine⟨L,_,r2,.str wd,rfl,rfl,SqL.of (s6 _ _ nL upd_same),ewd,?_⟩
    have w6:=(w5.new hL (.lst ([("all":Str),"all","some"].map V.str))).mk1 p6 s6
    refine⟨(by show 7≤sizeLine; decide),fun L2 hL2=>⟨_,rfl,p,7,rfl,w6.pot.keep (same_new hL2 _),by decide,by decide,fun r4 H7 r40 r41 p7 s7=>?_⟩⟩
    have nL2:L2≠p:=Ne.symm (w6.ne hL2)
    obtain⟨nm,hnm,enm⟩:=pick varMenu r40 r41
    refine⟨L2,_,r4,.str nm,rfl,rfl,SqL.of (s7 _ _ nL2 upd_same),enm,?_⟩
    have w7:=(w6.new hL2 (.lst (varMenu.map V.str))).mk1 p7 s7
    obtain⟨kB,tB,fB,tv',fv',eb1,nk1,ek1,_⟩:=BkAt.open (RdV.went hb w7.same)
    have ok4:=ok.k4
    have ok1:=ok.k1
    refine⟨_,rfl,b,_,0,.ref kB,rfl,rfl,SqT.of eb1,rfl,_,rfl,_,rfl,b,_,0,.ref kB,rfl,rfl,SqT.of eb1,rfl,kB,_,rfl,.inl (SqL.of ek1),?_⟩
    rw [List.length_map]
    refine⟨p,_,rfl,p7,by omega,by omega,fun r5 H8 r50 r51 p8 s8=>?_⟩
    obtain⟨kd,hkd,ekd⟩:=pick ks r50 r51
    refine⟨kB,_,r5,.str kd,rfl,rfl,SqL.of (s8 _ _ nk1 ek1),ekd,?_⟩
    have w8:=w7.mk1 p8 s8
    refine⟨_,rfl,_,rfl,_,rfl,_,rfl,_,rfl,_,rfl,_,rfl,_,rfl,(by show 2≤sizeLine; decide),fun tp htp=>⟨(by show 1≤sizeLine; decide),fun L3 hL3=>?_⟩⟩
    have w9:=(w8.new htp (.tup [.str nm,.str kd])).new hL3 (.lst [.ref tp])
    obtain⟨bs,ea,pa⟩:=(sc1 w9).ex
    have bl2:(bs.map V.ref).length=ps.length:=by rw [List.length_map,Paired.length pa]
    refine⟨a,L3,_,_,rfl,rfl,ea,upd_same,Nat.le_trans (show (bs.map V.ref).length+1≤4 by omega) (by decide),fun L4 hL4=>⟨_,rfl,_,_,rfl,rfl,?_⟩⟩
    have w10:=w9.new hL4 (.lst (bs.map V.ref++[.ref tp]))
    refine sub L4 (ps++[(nm,kd)]) _ _ w10 ⟨bs++[tp],by rw [List.map_append]; exact upd_same,?_⟩ (by rw [List.length_append,List.length_singleton]; omega) (fun z hz=>?_) fun v H11 t tv st ft w11=>⟨(by show 4≤sizeLine; decide),fun L5 hL5=>?_⟩
    ·exact paired_snoc (x:=tp) (y:=(nm,kd)) (F:=fun b (q:Str×Str)=>upd (upd (upd H8 tp (.tup [.str nm,.str kd])) L3 (.lst [.ref tp])) L4 (.lst (bs.map V.ref++[.ref tp])) b=some (.tup [.str q.1,.str q.2])) ((same_new hL4 _) _ _ ((same_new hL3 _) _ _ upd_same)) (Paired.mapP pa fun b q z=>(same_new hL4 _) _ _ z)
    ·rcases List.mem_append.mp hz with hz | hz
     ·exact hn z hz
     ·rw [List.mem_singleton.mp hz]; exact varMenu_nm nm hnm
    ·rw [meant_snoc] at st
     have hw:=allsome wd hwd
     refine q _ _ (.node [.leaf wd,.leaf nm,.leaf kd,t]) (.node upd_same (.cons (.leaf _) (.cons (.leaf _) (.cons (.leaf _) (.cons (tup_keep (Same.tups (same_new hL5 _)) tv) .nil))))) (.bind hw (varMenu_nm nm hnm) hkd st) ?_ ((w10.trans w11).new hL5 _)
     refine(Fit.node (FitA.cons ((Fit.wd wd (by rcases hw with rfl | rfl <;> simp)).mono (Nat.zero_le _) (Nat.le_refl _)) (FitA.cons ((Fit.nm (varMenu_nm nm hnm)).mono (Nat.zero_le _) (Nat.le_refl _)) (FitA.cons ((Fit.nm (ok.kn2 kd hkd)).mono (Nat.zero_le _) (Nat.le_refl _)) (FitA.cons ft FitA.nil))))).mono (by omega) ?_
     have:=bS_222 m
     rw [bS]; omega
  ·have atomS:∀ H',Went p H H'→spAtom [.ref p,.ref b,.ref a,.int 2] H' Q E0:=fun H' w'=>⟨p,b,a,ps,ks,ts,fs,rfl,w'.pot,RdV.went hb w'.same,ok,sc1 w',hl,hn,fun v H'' t tv st ft w''=>q _ _ t tv st (ft.mono (by omega) (bS_222 n)) (w'.trans w'')⟩
   refine⟨_,rfl,rfl,_,rfl,?_⟩
   by_cases n0:n=0
   ·exact ifT (by simp [n0]) (ifT rfl ⟨_,rfl,_,rfl,_,rfl,atomS _ w1⟩)
   refine ifF (by simp; omega) ?_
   obtain⟨c0,c1,c2,ec,hc0,hc1,hc2⟩:=id w1.pot
   refine⟨_,rfl,p,_,2,.int c2,rfl,rfl,SqL.of ec,rfl,_,_,rfl,rfl,_,rfl,?_⟩
   by_cases c8:c2<8
   ·exact ifT (by simpa using c8) (ifT rfl ⟨_,rfl,_,rfl,_,rfl,atomS _ w1⟩)
   refine ifF (by simpa using c8) ⟨_,rfl,_,_,rfl,rfl,_,rfl,?_⟩
   by_cases r3:r<3
   ·obtain⟨bs,ea,pa⟩:=(sc1 w1).ex
    refine ifT (by simpa using r3) ⟨_,rfl,Nat.zero_le _,fun l hl'=>⟨a,l,bs.map V.ref,rfl,rfl,SqL.of (by rw [upd_ne (ne_of_none ea hl')]; exact ea),SqL.of upd_same,_,rfl,?_⟩⟩
    by_cases bn:(!(bs.map V.ref).isEmpty)=true
    ·exact ifT bn ⟨_,rfl,_,rfl,_,rfl,atomS _ (w1.new hl' _)⟩
    ·exact ifF bn (go _ _ ⟨rfl,w1.new hl' _,n0⟩)
   ·exact ifF (by simpa using r3) (ifF (by simp) (go _ _ ⟨rfl,w1,n0⟩))
theorem ok_sin0 (F:FunAt K mg "_law_saying_in" s_law_saying_in ["_law_pot_here","_law_book_here","_law_scope","_law_deep"]):Def P w K mg base "_law_saying_in" 6 ["_law_pot_here","_law_book_here","_law_scope","_law_deep"] (spSin' 0):=
 F.mk' (k:=5) zp4 (fun vs H Q E h=>False.elim h) fun f cdv A outer s H vs Q E hr h=>False.elim h
theorem ok_sin (F:FunAt K mg "_law_saying_in" s_law_saying_in ["_law_pot_here","_law_book_here","_law_scope","_law_deep"]) (Z:Bl mg) (D_law_draw:Def P w K mg base "_law_draw" 1 ["_law_pot_here","_law_many"] spDraw) (D_law_atom:Def P w K mg base "_law_atom" 6 ["_law_pot_here","_law_book_here","_law_scope","_law_deep"] spAtom):∀ n,Def P w K mg base "_law_saying_in" (n+7) ["_law_pot_here","_law_book_here","_law_scope","_law_deep"] (spSin n)
 | 0=>ok_sin_of F Z D_law_draw D_law_atom 0 (ok_sin0 F)
 | n+1=>ok_sin_of F Z D_law_draw D_law_atom (n+1) (ok_sin F Z D_law_draw D_law_atom n)
end
theorem zqr:LD "_law_as":=by decide +kernel
theorem mix_ne {H:Hp} {p a:Addr} {xs:List V} {ts:List Tr} (hp:PotAt H p) (h:LT H a xs) (r:MixA H xs ts):a≠p:=by
 rcases h with h | h
 ·refine pot_ne hp h fun x y z q=>?_
  injection q with q
  subst q
  cases r with
  | cons f _=>cases f
 ·exact pot_ne hp h fun _ _ _ z=>nomatch z
mutual
theorem mix_went {H H':Hp} {p:Addr} (hp:PotAt H p) (s:SameX p H H'):∀ {v:V} {t:Tr},Mix H v t→Mix H' v t
 | _,_,.leaf x=>.leaf x
 | _,_,.node h r=>.node (h.mono fun o e=>s _ o (mix_ne hp h r) e) (mixA_went hp s r)
theorem mixA_went {H H':Hp} {p:Addr} (hp:PotAt H p) (s:SameX p H H'):∀ {v:List V} {t:List Tr},MixA H v t→MixA H' v t
 | _,_,.nil=>.nil
 | _,_,.cons a r=>.cons (mix_went hp s a) (mixA_went hp s r)
end
theorem MixA.snoc {H:Hp} {x:V} {y:Tr}:∀ {v:List V} {t:List Tr},MixA H v t→Mix H x y→MixA H (v++[x]) (t++[y])
 | _,_,.nil,h=>.cons h .nil
 | _,_,.cons a r,h=>.cons a (MixA.snoc r h)
theorem szA_len:∀ ts:List Tr,ts.length≤szA ts
 | []=>Nat.le_refl _
 | t::ts=>by rw [szA,List.length_cons]; have:=szA_len ts; omega
theorem szA_mem {t:Tr}:∀ {ts:List Tr},t∈ts→sz t≤szA ts
 | x::r,h=>by
  rw [szA]
  rcases List.mem_cons.mp h with rfl | h
  ·omega
  ·have:=szA_mem h; omega
section
variable {P:Program} {w:World} {K:PySem.W.Frag} {mg:Str→Option Value} {base:Heap}
abbrev s_law_saying:Stmt:=top 48
theorem zqs:FnScope ["_law_pot_here","_law_book_here","_law_deep"] ["_law_pot_here","_law_book_here","_law_deep"] (defScope s_law_saying):=⟨rfl,rfl,rfl,by decide +kernel,rfl,by decide +kernel,by decide +kernel⟩
theorem zqt:LN .local s_law_saying "_law_book_here":=by decide +kernel
theorem zqu:LN .local s_law_saying "_law_deep":=by decide +kernel
theorem zqv:LN .local s_law_saying "_law_pot_here":=by decide +kernel
theorem zqw:LN .globalImplicit s_law_saying "_law_saying_in":=by decide +kernel
def spSaying:Sp:=fun vs H Q _=>∃ (p b:Addr) (ks:List Str) (ts:List TieR) (fs:List FunR),vs=[.ref p,.ref b,.int 4]∧PotAt H p∧BkAt H p b ks ts fs∧BookOk ks ts fs∧∀ v H' t,Tup H' v t→IsSy ks ts fs (fun _=>none) t→Fit 7 20000 t→Went p H H'→Q v H'
theorem ok_saying (F:FunAt K mg "_law_saying" s_law_saying ["_law_pot_here","_law_book_here","_law_deep"]) (Z:Bl mg) (D_law_saying_in:Def P w K mg base "_law_saying_in" (4+7) ["_law_pot_here","_law_book_here","_law_scope","_law_deep"] (spSin 4)):Def P w K mg base "_law_saying" 12 ["_law_pot_here","_law_book_here","_law_deep"] spSaying:=by
 have SC:=zqs
 refine F.mk' (k:=11) zqs (fun vs H Q E h=>?_) (fun f cdv A outer s H vs Q E hr h=>?_)
 ·obtain⟨p,b,ks,ts,fs,rfl,_⟩:=h
  rfl
 ·obtain⟨p,b,ks,ts,fs,rfl,hp,hb,ok,q⟩:=h
  refine'⟨_,?derivation,?_⟩
  case derivation=>refine' pss_cons ?Aa ?Ba;(case Aa=>refine' ps_asg ?Ca ?Da ?Ea ?Fa ?Ga;(case Ca=>exact pe_int);(case Da=>refine' pg_sub (pq 0 (visL zqv) zbn zbo) ?Ha set_list ?Ia;(case Ha=>exact pe_int);case Ia=>intro _; rfl);(case Ea=>rfl);(case Fa=>rfl);case Ga=>rfl);case Ba=>refine' pss_one ?Ja;case Ja=>refine' ps_ret ?Ka;case Ka=>refine' pe_def (hdb:=zp1) D_law_saying_in (hr.mono (by omega)) zqw ?La rfl rfl;case La=>refine' pa_cons (pq 0 (visL zqv) zbn zbo) ?Ma ?Na;(case Ma=>refine' pa_cons (pq 1 (visL zqt) zob zoc) ?Oa ?Pa;(case Oa=>refine' pa_cons ?Qa ?Ra ?Sa;(case Qa=>refine' pe_lst pa_nil);(case Ra=>refine' pa_cons (pq 2 (visL zqu) zod zoe) pa_nil ?Ta;case Ta=>rfl);case Sa=>rfl);case Pa=>rfl);case Na=>rfl
  obtain⟨x0,x1,x2,ep,ha,hb0,hb1⟩:=id hp
  refine⟨_,rfl,p,_,2,2,rfl,rfl,ep,rfl,?_⟩
  generalize hHA:upd H p (.lst (List.set [V.int x0,V.int x1,V.int x2] 2 (V.int 40)))=HA
  have wA:Went p H HA:=⟨⟨x0,x1,40,by rw [← hHA]; exact upd_same,ha,hb0,hb1⟩,by rw [← hHA]; exact SameX.upd _ _ _⟩
  refine⟨_,rfl,_,rfl,Nat.zero_le _,fun L hL=>⟨_,rfl,?_⟩⟩
  have w1:=wA.new hL (.lst [])
  exact⟨p,b,L,[],ks,ts,fs,rfl,w1.pot,RdV.went hb w1.same,ok,⟨[],upd_same,.nil⟩,Nat.zero_le _,(fun _ z=>nomatch z),fun v H' t tv st ft w'=>q v H' t tv st (ft.mono (by decide) (by decide)) (w1.trans w')⟩
abbrev s_law_as:Stmt:=top 49
theorem zqx:FnScope ["_law_pot_here","_law_thing","_law_made"] ["_law_pot_here","_law_thing"] (defScope s_law_as):=⟨rfl,rfl,rfl,by decide +kernel,rfl,by decide +kernel,by decide +kernel⟩
theorem zqy:LN .globalImplicit s_law_as "_law_draw":=by decide +kernel
theorem zqz:LN .local s_law_as "_law_made":=by decide +kernel
theorem zq0:LN .cell s_law_as "_law_pot_here":=by decide +kernel
theorem zq1:LN .local s_law_as "_law_thing":=by decide +kernel
theorem zq2:LN .globalImplicit s_law_as "isinstance":=by decide +kernel
theorem zq3:LN .globalImplicit s_law_as "str":=by decide +kernel
theorem zq4:LN .globalImplicit s_law_as "tuple":=by decide +kernel
abbrev QS15:Scope:={kind:=PySem.ScopeKind.function,names:=[ (PySem.Str.ofString ".0",PySem.NameKind.local),(PySem.Str.ofString "_law_one",PySem.NameKind.local),(PySem.Str.ofString "_law_as",PySem.NameKind.globalImplicit),(PySem.Str.ofString "_law_pot_here",PySem.NameKind.free)],isGenerator:=false,isCoroutine:=false,more:=[]:PySem.Scope}
theorem zq5:CompSc 1 ["_law_one","_law_pot_here","_law_thing","_law_made"] ["_law_pot_here","_law_thing","_law_made"] (defScope s_law_as) QS15:=⟨rfl,by decide +kernel,by decide +kernel,by decide +kernel,by decide +kernel,rfl,by decide +kernel⟩
theorem zq6:LC .globalImplicit QS15 "_law_as":=by decide +kernel
theorem zq7:LC .local QS15 "_law_one":=by decide +kernel
theorem zq8:LC .free QS15 "_law_pot_here":=by decide +kernel
def spAs (n:Nat):Sp:=fun vs H Q _=>∃ (p:Addr) (v:V) (t:Tr),vs=[.ref p,v]∧PotAt H p∧Tup H v t∧dep t≤n∧sz t≤20000∧∀ u H',Mix H' u t→Went p H H'→Q u H'
def spAs':Nat→Sp
 | 0=>fun _ _ _ _=>False
 | n+1=>spAs n
theorem spAs'_of {m:Nat} {vs:List V} {H:Hp} {Q:VK} {E:XK} (h:spAs m vs H Q E):spAs' (m+1) vs H Q E:=h
theorem ok_as_of (F:FunAt K mg "_law_as" s_law_as ["_law_pot_here","_law_thing"]) (Z:Bl mg) (D_law_draw:Def P w K mg base "_law_draw" 1 ["_law_pot_here","_law_many"] spDraw) (n:Nat) (D_law_as:Def P w K mg base "_law_as" (n+1) ["_law_pot_here","_law_thing"] (spAs' n)):Def P w K mg base "_law_as" (n+2) ["_law_pot_here","_law_thing"] (spAs n):=by
 have SC:=zqx
 refine F.mk' (k:=n+1) zqx (fun vs H Q E h=>?_) (fun f cdv A outer s H vs Q E hr h=>?_)
 ·obtain⟨p,v,t,rfl,_⟩:=h
  rfl
 ·obtain⟨p,v,t,rfl,hp,ht,hn,hz,q⟩:=h
  refine'⟨_,?derivation,?_⟩
  case derivation=>refine' pss_cons ?Aa ?Ba;(case Aa=>refine' ps_if ?Ca ?Da pss_nil;(case Ca=>refine' pt_val ?Ea ?Fa;(case Ea=>refine' pe_callB (hn:=zd8) (hdb:=zd7) (call_isiT (T:="str")) zq2 Z.n_isinstance bt_isinstance ?Ga rfl rfl;case Ga=>refine' pa_cons (pq 1 (visL zq1) zm4 zm5) ?Ha ?Ia;(case Ha=>refine' pa_cons ?Ja pa_nil ?Ka;(case Ja=>refine' pe_bltn (v:=V.ty "str") (hn:=zeo) (hd:=zen) zq3 Z.n_str bt_str rfl);case Ka=>rfl);case Ia=>rfl);case Fa=>intro _; rfl);case Da=>refine' pss_one ?La;case La=>refine' ps_ret (pq 1 (visL zq1) zm4 zm5));case Ba=>refine' pss_cons ?Ma ?Na;(case Ma=>refine' ps_setComp (i:=2) (x:=Str.ofString "_law_made") SC.nd ?Oa (Or.inl zqz) ?Pa noxe ?Qa zq5.at ?Ra ?Sa ?Ta ?Ua ?Va;(case Oa=>exact rfl);(case Pa=>exact rfl);(case Qa=>exact rfl);(case Ra=>refine' pi_tup (pq 1 (visL zq1) zm4 zm5));(case Sa=>intro _ _ _ _ _;refine' pg_name (i:=0) zq5.nd rfl (locO zq7) (.inr (lookup_relabel_local zq7)));(case Ta=>intro _ _ _ _ _;refine' pe_def (hdb:=zqr) D_law_as (hr.mono (by omega)) (glO zq6) ?Wa rfl rfl;case Wa=>refine' pa_cons (pq 1 (visF zq8) zbn zbo) ?Xa ?Ya;(case Xa=>refine' pa_cons (pq 0 (visO zq7) zm0 zm1) pa_nil ?Za;case Za=>rfl);case Ya=>rfl);(case Ua=>intro _; rfl);case Va=>exact .inl rfl);case Na=>refine' pss_one ?Ab;case Ab=>refine' ps_ret ?Bb;case Bb=>refine' pe_ix ix_list ?Cb ?Db ?Eb;(case Cb=>refine' pe_lst ?Fb;case Fb=>refine' pa_cons (pq 2 (visL zqz) zni znj) ?Gb ?Hb;(case Gb=>refine' pa_cons ?Ib pa_nil ?Jb;(case Ib=>refine' pe_callTy (hn:=zeu) (hdb:=zet) ?Kb zq4 Z.n_tuple bt_tuple ?Lb rfl rfl;(case Kb=>exact call_tuple_of);case Lb=>refine' pa_cons (pq 2 (visL zqz) zni znj) pa_nil ?Mb;case Mb=>rfl);case Jb=>rfl);case Hb=>rfl);(case Db=>refine' pe_def (hdb:=zbe) D_law_draw (hr.mono (by omega)) zqy ?Nb rfl rfl;case Nb=>refine' pa_cons (pq 0 (visC zq0) zbn zbo) ?Ob ?Pb;(case Ob=>refine' pa_cons ?Qb pa_nil ?Rb;(case Qb=>exact pe_int);case Rb=>rfl);case Pb=>rfl);case Eb=>intro _ _;exact rfl
  cases ht with
  | leaf x=>exact⟨_,rfl,_,_,_,rfl,.str _,kit_str1 K,true,rfl,ifT rfl ⟨_,rfl,q _ H (.leaf x) (Went.refl hp)⟩⟩
  | node h r=>
   rename_i a xs ts
   have hd:dep (.node ts)=1+depA ts:=rfl
   rw [hd] at hn
   rw [sz] at hz
   obtain⟨m,rfl⟩:∃ m,n=m+1:=⟨n-1,by omega⟩
   have rl:=r.length
   have zl:=szA_len ts
   refine⟨_,rfl,_,_,false,rfl,.tup h,rfl,false,rfl,iteF ?_⟩
   refine⟨_,rfl,a,rfl,⟨_,SqT.of h⟩,fun cl C ex s0 Hc=>?_⟩
   refine comp_it1 xs.length (fun i ys H1=>Went p H H1∧MixA H1 ys (ts.take i)) (fun i y=>xs[i]? = some y) ⟨Went.refl hp,.nil⟩ (Nat.le_trans (show xs.length≤20000 by omega) (by decide))
    (fun i ys H1 hi _ h1=>go_tup (SqT.of (pot_tups hp h1.1.same _ _ h)) hi) (fun ys H1 _ h1=>stop_tup (SqT.of (pot_tups hp h1.1.same _ _ h))) ?_ ?_
   ·rintro i y ys H1 hi hy yl ⟨w1,m1⟩
    obtain⟨t,ht,tt⟩:=r.get hy
    have dt:=depA_mem (List.mem_of_getElem? ht)
    have st:=szA_mem (List.mem_of_getElem? ht)
    refine⟨_,rfl,_,rfl,?_⟩
    refine spAs'_of (E:=E0) ⟨p,y,t,rfl,w1.pot,tup_keep (pot_tups hp w1.same) tt,by omega,by omega,fun u H2 mu w2=>⟨w1.trans w2,?_⟩⟩
    rw [List.take_succ,ht]
    exact MixA.snoc (mixA_went w1.pot w2.same m1) mu
   ·rintro ys H1 yl ⟨w1,m1⟩ D hD
    rw [rl,List.take_length] at m1
    have w2:=w1.new hD (.lst ys)
    have nD:D≠p:=Ne.symm (w1.ne hD)
    refine⟨_,rfl,_,rfl,D,ys,rfl,.inl ⟨SqL.of upd_same,fun t2 ht2=>⟨(by show 2≤sizeLine; decide),fun L hL=>?_⟩⟩⟩
    have w3:=(w2.new ht2 (.tup ys)).new hL (.lst [.ref D,.ref t2])
    have nL:L≠p:=Ne.symm ((w2.new ht2 (.tup ys)).ne hL)
    have nt:t2≠p:=Ne.symm (w2.ne ht2)
    refine⟨_,rfl,p,2,rfl,w3.pot,by decide,by decide,fun r2 H3 r0 r1 p3 s3=>?_⟩
    have w4:=w3.mk1 p3 s3
    have eD:H3 D=some (.lst ys):=s3 _ _ nD ((same_new hL _) _ _ ((same_new ht2 _) _ _ upd_same))
    have et:H3 t2=some (.tup ys):=s3 _ _ nt ((same_new hL _) _ _ upd_same)
    have m3:MixA H3 ys ts:=mixA_went w3.pot s3 (mixA_same (same_new hL _) (mixA_same (same_new ht2 _) (mixA_same (same_new hD _) m1)))
    have hc:r2=0∨r2=1:=by omega
    rcases hc with rfl | rfl
    ·exact⟨L,_,0,.ref D,rfl,rfl,SqL.of (s3 _ _ nL upd_same),rfl,q _ _ (.node (.inl eD) m3) w4⟩
    ·exact⟨L,_,1,.ref t2,rfl,rfl,SqL.of (s3 _ _ nL upd_same),rfl,q _ _ (.node (.inr et) m3) w4⟩
theorem ok_as0 (F:FunAt K mg "_law_as" s_law_as ["_law_pot_here","_law_thing"]):Def P w K mg base "_law_as" 1 ["_law_pot_here","_law_thing"] (spAs' 0):=
 F.mk' (k:=0) zqx (fun vs H Q E h=>False.elim h) fun f cdv A outer s H vs Q E hr h=>False.elim h
theorem ok_as (F:FunAt K mg "_law_as" s_law_as ["_law_pot_here","_law_thing"]) (Z:Bl mg) (D_law_draw:Def P w K mg base "_law_draw" 1 ["_law_pot_here","_law_many"] spDraw):∀ n,Def P w K mg base "_law_as" (n+2) ["_law_pot_here","_law_thing"] (spAs n)
 | 0=>ok_as_of F Z D_law_draw 0 (ok_as0 F)
 | n+1=>ok_as_of F Z D_law_draw (n+1) (ok_as F Z D_law_draw n)
end
theorem zq9:LD "_law_before":=by decide +kernel
theorem zra:LS "_law_before":=by decide +kernel
theorem zrb:LD "_law_handed":=by decide +kernel
theorem zrc:LS "_law_handed":=by decide +kernel
theorem zrd:LD "_law_saying_here":=by decide +kernel
theorem zre:LS "_law_saying_here":=by decide +kernel
theorem zrf:LD "_law_signs":=by decide +kernel
theorem zrg:LS "_law_signs":=by decide +kernel
theorem zrh:LD "_law_told":=by decide +kernel
theorem zri:LS "_law_told":=by decide +kernel
theorem zrj:LD "read_saying":=by decide +kernel
theorem zrk:LD "repr":=by decide +kernel
theorem zrl:LM "repr":=by decide +kernel
theorem zrm:LD "write_saying":=by decide +kernel
theorem IsSy.ref {ks:List Str} {ts:List TieR} {fs:List FunR} {S:Str→Option Str} {t:Tr} (h:IsSy ks ts fs S t):∃ l,t=.node l:=by
 obtain⟨w,l,rfl,_⟩:=h.as
 exact⟨_,rfl⟩
section
variable {P:Program} {w:World} {K:PySem.W.Frag} {mg:Str→Option Value} {base:Heap}
abbrev s_law_right:Stmt:=top 51
theorem zrn:FnScope ["_law_signs","_law_saying_here","_law_handed","_law_before","_law_told"] ["_law_signs","_law_saying_here","_law_handed"] (defScope s_law_right):=⟨rfl,rfl,rfl,by decide +kernel,rfl,by decide +kernel,by decide +kernel⟩
theorem zro:LN .local s_law_right "_law_before":=by decide +kernel
theorem zrp:LN .local s_law_right "_law_handed":=by decide +kernel
theorem zrq:LN .local s_law_right "_law_saying_here":=by decide +kernel
theorem zrr:LN .local s_law_right "_law_signs":=by decide +kernel
theorem zrs:LN .local s_law_right "_law_told":=by decide +kernel
theorem zrt:LN .globalImplicit s_law_right "_law_written":=by decide +kernel
theorem zru:LN .globalImplicit s_law_right "isinstance":=by decide +kernel
theorem zrv:LN .globalImplicit s_law_right "read_saying":=by decide +kernel
theorem zrw:LN .globalImplicit s_law_right "repr":=by decide +kernel
theorem zrx:LN .globalImplicit s_law_right "str":=by decide +kernel
theorem zry:LN .globalImplicit s_law_right "write_saying":=by decide +kernel
def spRight (C:Addr):Sp:=fun vs H Q _=>∃ (g:Addr) (v u:V) (ks:List Str) (ts:List TieR) (fs:List FunR) (t:Tr),vs=[.ref g,v,u]∧SignsAt C H g ks ts fs∧BookOk ks ts fs∧Tup H v t∧Mix H u t∧IsSy ks ts fs (fun _=>none) t∧Fit 7 20000 t∧∀ H',Same H H'→Q (.bl true) H'
theorem ok_right {C:Addr} (F:FunAt K mg "_law_right" s_law_right ["_law_signs","_law_saying_here","_law_handed"]) (Z:Bl mg) (D_write_saying:Def P w K mg base "write_saying" 31 ["signs","saying"] (spWrite C)) (D_read_saying:Def P w K mg base "read_saying" 31 ["signs","text"] (spRead C))
  (D_law_written:Def P w K mg base "_law_written" (12+2) ["_law_thing"] (spWr 12)):Def P w K mg base "_law_right" 32 ["_law_signs","_law_saying_here","_law_handed"] (spRight C):=by
 have SC:=zrn
 refine F.mk' (k:=31) zrn (fun vs H Q E h=>?_) (fun f cdv A outer s H vs Q E hr h=>?_)
 ·obtain⟨g,v,u,ks,ts,fs,t,rfl,_⟩:=h
  rfl
 ·obtain⟨g,v,u,ks,ts,fs,t,rfl,hS,ok,hv,hu,hs,ft,q⟩:=h
  refine'⟨_,?derivation,?_⟩
  case derivation=>refine' pss_cons ?Aa ?Ba;(case Aa=>refine' ps_set (i:=3) (x:=Str.ofString "_law_before") ?Ca ?Da ?Ea ?Fa ?Ga ?Ha;(case Ca=>exact SC.nd);(case Da=>exact rfl);(case Ea=>exact(Or.inl zro));(case Fa=>refine' pe_callB (hn:=zrl) (hdb:=zrk) (call_reprD hr) zrw Z.n_repr bt_repr ?Ia rfl rfl;case Ia=>refine' pa_cons (pq 2 (visL zrp) zrb zrc) pa_nil ?Ja;case Ja=>rfl);(case Ga=>rfl);case Ha=>exact .inl rfl);case Ba=>refine' pss_cons ?Ka ?La;(case Ka=>refine' ps_set (i:=4) (x:=Str.ofString "_law_told") ?Ma ?Na ?Oa ?Pa ?Qa ?Ra;(case Ma=>exact SC.nd);(case Na=>exact rfl);(case Oa=>exact(Or.inl zrs));(case Pa=>refine' pe_def (hdb:=zrm) D_write_saying (hr.mono (by omega)) zry ?Sa rfl rfl;case Sa=>refine' pa_cons (pq 0 (visL zrr) zrf zrg) ?Ta ?Ua;(case Ta=>refine' pa_cons (pq 2 (visL zrp) zrb zrc) pa_nil ?Va;case Va=>rfl);case Ua=>rfl);(case Qa=>rfl);case Ra=>exact .inl rfl);case La=>refine' pss_cons ?Wa ?Xa;(case Wa=>refine' ps_if ?Ya ?Za pss_nil;(case Ya=>refine' PW.pt ?Ab;case Ab=>refine' pw_or ?Bb ?Cb;(case Bb=>refine' pt_not ?Db;case Db=>refine' pt_val ?Eb ?Fb;(case Eb=>refine' pe_callB (hn:=zd8) (hdb:=zd7) (call_isiT (T:="str")) zru Z.n_isinstance bt_isinstance ?Gb rfl rfl;case Gb=>refine' pa_cons (pq 4 (visL zrs) zrh zri) ?Hb ?Ib;(case Hb=>refine' pa_cons ?Jb pa_nil ?Kb;(case Jb=>refine' pe_bltn (v:=V.ty "str") (hn:=zeo) (hd:=zen) zrx Z.n_str bt_str rfl);case Kb=>rfl);case Ib=>rfl);case Fb=>intro _; rfl);case Cb=>refine' pw_or ?Lb ?Mb;(case Lb=>refine' pt_cmpR op_ne (pq 4 (visL zrs) zrh zri) ?Nb (nomark _);case Nb=>refine' pe_def (hdb:=zm6) D_law_written (hr.mono (by omega)) zrt ?Ob rfl rfl;case Ob=>refine' pa_cons (pq 1 (visL zrq) zrd zre) pa_nil ?Pb;case Pb=>rfl);case Mb=>refine' pw_or1 ?Qb;case Qb=>refine' pt_cmpR op_ne ?Rb (pq 3 (visL zro) zq9 zra) (nomark _);case Rb=>refine' pe_callB (hn:=zrl) (hdb:=zrk) (call_reprD hr) zrw Z.n_repr bt_repr ?Sb rfl rfl;case Sb=>refine' pa_cons (pq 2 (visL zrp) zrb zrc) pa_nil ?Tb;case Tb=>rfl);case Za=>refine' pss_one ?Ub;case Ub=>refine' ps_ret ?Vb;case Vb=>exact pe_bl);case Xa=>refine' pss_one ?Wb;case Wb=>refine' ps_ret ?Xb;case Xb=>refine' pe_cmpR op_eq ?Yb ?Zb (nomark _);(case Yb=>refine' pe_callB (hn:=zrl) (hdb:=zrk) (call_reprD hr) zrw Z.n_repr bt_repr ?Ac rfl rfl;case Ac=>refine' pa_cons ?Bc pa_nil ?Cc;(case Bc=>refine' pe_def (hdb:=zrj) D_read_saying (hr.mono (by omega)) zrv ?Dc rfl rfl;case Dc=>refine' pa_cons (pq 0 (visL zrr) zrf zrg) ?Ec ?Fc;(case Ec=>refine' pa_cons (pq 4 (visL zrs) zrh zri) pa_nil ?Gc;case Gc=>rfl);case Fc=>rfl);case Cc=>rfl);case Zb=>refine' pe_callB (hn:=zrl) (hdb:=zrk) (call_reprD hr) zrw Z.n_repr bt_repr ?Hc rfl rfl;case Hc=>refine' pa_cons (pq 1 (visL zrq) zrd zre) pa_nil ?Ic;case Ic=>rfl
  obtain⟨du,ru,lu⟩:=mix_rds hu
  have rv:=tup_rds hv
  have lv:=dT_lk t
  obtain⟨l,rfl⟩:=IsSy.ref hs
  have wl:(wr (.node l)).length≤20000:=Nat.le_trans (wr_sz _) ft.wt
  obtain⟨pu,rfl⟩:∃ a,u=.ref a:=by cases hu; exact⟨_,rfl⟩
  obtain⟨pv,rfl⟩:∃ a,v=.ref a:=by cases hv; exact⟨_,rfl⟩
  obtain⟨s1,s2,s3,s4⟩:=ft.shows lu (by decide) (by decide)
  obtain⟨v1,v2,v3,v4⟩:=ft.shows lv (by decide) (by decide)
  have dp:dep (.node l)≤12:=Nat.le_trans ft.dp (by decide)
  refine⟨_,rfl,pu,du,rfl,ru,s1,s2,s3,s4,?_⟩
  refine⟨_,rfl,_,rfl,g,.ref pu,ks,ts,fs,.node l,rfl,hS,ok,hu,hs,dp,by omega,fun H1 h1=>?_⟩
  refine⟨_,rfl,_,_,_,rfl,.str _,kit_str1 K,true,rfl,iteF ?_⟩
  refine⟨_,rfl,_,rfl,.ref pv,.node l,rfl,tup_keep (Same.tups h1) hv,dp,by omega,fun H2 h2=>?_⟩
  have h12:=h1.trans h2
  refine⟨rfl,_,rfl,ifF (by simp) ?_⟩
  refine⟨_,rfl,pu,du,rfl,rds_same h12 ru,s1,s2,s3,s4,_,rfl,rfl,_,rfl,ifF (by simp) ?_⟩
  refine⟨_,rfl,_,rfl,g,ks,ts,fs,.node l,rfl,hS.same h12,ok,hs,dp,by omega,fun u H3 tu h3=>?_⟩
  obtain⟨pw,rfl⟩:∃ a,u=.ref a:=by cases tu; exact⟨_,rfl⟩
  have h13:=h12.trans h3
  refine⟨pw,_,rfl,tup_rds tu,v1,v2,v3,v4,_,rfl,pv,_,rfl,rds_same h13 rv,v1,v2,v3,v4,rfl,?_⟩
  rw [decide_eq_true rfl]
  exact q _ h13
end
theorem zrz:LD "Signs":=by decide +kernel
theorem zr0:LD "_law_book":=by decide +kernel
theorem zr1:LD "_law_cell":=by decide +kernel
theorem zr2:LD "_law_elder":=by decide +kernel
theorem zr3:LS "_law_elder":=by decide +kernel
theorem zr4:LD "_law_number":=by decide +kernel
theorem zr5:LS "_law_number":=by decide +kernel
theorem zr6:LD "_law_other":=by decide +kernel
theorem zr7:LS "_law_other":=by decide +kernel
theorem zr8:LD "_law_pot":=by decide +kernel
theorem zr9:LD "_law_right":=by decide +kernel
theorem zsa:LD "_law_saying":=by decide +kernel
theorem tiesL_sgs {R:Addr→Prop} {H:Hp}:∀ {ts:List TieR} {tv:List V},RdA R H tv (ts.map tieL)→∃ ab:List (Addr×Addr),tv=ab.map (fun q=>V.ref q.1)∧Sgs H ab (ts.map tieRow)
 | [],_,.nil=>⟨[],rfl,.nil⟩
 | t::r,_,.cons a b=>by
  obtain⟨ab,rfl,hs⟩:=tiesL_sgs b
  obtain⟨q1,qx,rfl,_,h1,h2⟩:=RdV.tuple_inv a
  obtain⟨u,v,rfl,hu,hv⟩:=h2.two
  obtain rfl:=hu.str_inv
  obtain⟨q2,qy,rfl,_,h3,h4⟩:=hv.list_inv
  obtain rfl:=h4.strs_inv
  exact⟨(q1,q2)::ab,rfl,.cons ⟨.inr h1,.inl h3⟩ hs⟩
theorem funsL_sgs {R:Addr→Prop} {H:Hp}:∀ {ts:List FunR} {tv:List V},RdA R H tv (ts.map funL)→∃ ab:List (Addr×Addr),tv=ab.map (fun q=>V.ref q.1)∧Sgs H ab (ts.map funRow)
 | [],_,.nil=>⟨[],rfl,.nil⟩
 | t::r,_,.cons a b=>by
  obtain⟨ab,rfl,hs⟩:=funsL_sgs b
  obtain⟨q1,qx,rfl,_,h1,h2⟩:=RdV.tuple_inv a
  obtain⟨u,v,x,rfl,hu,hv,hx⟩:=h2.three
  obtain rfl:=hu.str_inv
  obtain rfl:=hx.str_inv
  obtain⟨q2,qy,rfl,_,h3,h4⟩:=hv.list_inv
  obtain rfl:=h4.strs_inv
  exact⟨(q1,q2)::ab,rfl,.cons ⟨.inr h1,.inl h3⟩ hs⟩
theorem mem_cut {xs:List V} {lo hi:Option Int} {y:V} (h:y∈cutV xs lo hi):y∈xs:=List.mem_of_mem_drop (List.mem_of_mem_take h)
structure SyAt (C:Addr) (H:Hp) (g:Addr) (v:V) (ks:List Str) (ts:List TieR) (fs:List FunR) (t:Tr):Prop where
 sg:SignsAt C H g ks ts fs
 ok:BookOk ks ts fs
 tp:Tup H v t
 sy:IsSy ks ts fs (fun _=>none) t
 ft:Fit 7 20000 t
theorem SyAt.same {C:Addr} {H H':Hp} {g:Addr} {v:V} {ks:List Str} {ts:List TieR} {fs:List FunR} {t:Tr} (h:SyAt C H g v ks ts fs t) (s:Same H H'):SyAt C H' g v ks ts fs t:=⟨h.sg.same s,h.ok,tup_keep (Few.Same.tups s) h.tp,h.sy,h.ft⟩
theorem SyAt.went {C:Addr} {H H':Hp} {p g:Addr} {v:V} {ks:List Str} {ts:List TieR} {fs:List FunR} {t:Tr} (h:SyAt C H g v ks ts fs t) (hp:PotAt H p) (n:g≠p) (s:SameX p H H'):SyAt C H' g v ks ts fs t:=⟨h.sg.keep (fun o e=>s g o n e) (pot_tups hp s),h.ok,tup_keep (pot_tups hp s) h.tp,h.sy,h.ft⟩
def ElAt (C:Addr) (H:Hp) (e:V):Prop:=e=.non∨∃ (a g:Addr) (v:V) (ks:List Str) (ts:List TieR) (fs:List FunR) (t:Tr),e=.ref a∧H a=some (.tup [.ref g,v])∧SyAt C H g v ks ts fs t
theorem ElAt.same {C:Addr} {H H':Hp} {e:V} (h:ElAt C H e) (s:Same H H'):ElAt C H' e:=by
 rcases h with h | ⟨a,g,v,ks,ts,fs,t,h1,h2,h3⟩
 ·exact .inl h
 ·exact .inr ⟨a,g,v,ks,ts,fs,t,h1,s _ _ h2,h3.same s⟩
section
variable {P:Program} {w:World} {K:PySem.W.Frag} {mg:Str→Option Value} {base:Heap}
abbrev s_law:Stmt:=top 52
theorem zsb:FnScope ["_law_script","_law_elder","_law_number","_law_pot_here","_law_book_here","_law_signs","_law_saying_here","_law_other"] ["_law_script"] (defScope s_law):=⟨rfl,rfl,rfl,by decide +kernel,rfl,by decide +kernel,by decide +kernel⟩
theorem zsc:LN .globalImplicit s_law "Signs":=by decide +kernel
theorem zsd:LN .globalImplicit s_law "_law_as":=by decide +kernel
theorem zse:LN .globalImplicit s_law "_law_book":=by decide +kernel
theorem zsf:LN .local s_law "_law_book_here":=by decide +kernel
theorem zsg:LN .globalImplicit s_law "_law_cell":=by decide +kernel
theorem zsh:LN .local s_law "_law_elder":=by decide +kernel
theorem zsi:LN .local s_law "_law_number":=by decide +kernel
theorem zsj:LN .local s_law "_law_other":=by decide +kernel
theorem zsk:LN .globalImplicit s_law "_law_pot":=by decide +kernel
theorem zsl:LN .local s_law "_law_pot_here":=by decide +kernel
theorem zsm:LN .globalImplicit s_law "_law_right":=by decide +kernel
theorem zsn:LN .globalImplicit s_law "_law_saying":=by decide +kernel
theorem zso:LN .local s_law "_law_saying_here":=by decide +kernel
theorem zsp:LN .local s_law "_law_script":=by decide +kernel
theorem zsq:LN .local s_law "_law_signs":=by decide +kernel
def spLaw (K:PySem.W.Frag):Sp:=fun vs H Q _=>∃ (a:Addr) (ns:List Int),vs=[.ref a]∧SqL K H a (ns.map V.int)∧ns.length≤63∧∀ H',Q (.bl true) H'
theorem ok_law {C fI fL:Addr} {fdI fdL:FuncData} (F:Fun K "law" "law" s_law fL fdL) (Z:Bl mg) (D_law_cell:Def P w K mg base "_law_cell" 1 ["_law_script","_law_k"] (spCell (K:=K))) (D_law_pot:Def P w K mg base "_law_pot" 1 ["_law_cell_here"] spPot)
  (D_law_book:Def P w K mg base "_law_book" 3 ["_law_pot_here","_law_most_kinds","_law_most_signs"] spBook) (D_law_saying:Def P w K mg base "_law_saying" 12 ["_law_pot_here","_law_book_here","_law_deep"] spSaying)
  (D_law_as:Def P w K mg base "_law_as" (7+2) ["_law_pot_here","_law_thing"] (spAs 7)) (D_law_right:Def P w K mg base "_law_right" 32 ["_law_signs","_law_saying_here","_law_handed"] (spRight C))
  (M_Signs:Mk K C fI) (G_Signs:FnOk P w K mg base CX0 5 fI fdI ["self","kinds","ties","functions"] (spInit C)) (m_Signs:mg "Signs"=some (.ref C)) (b_Signs:Binds K fdI ["self","kinds","ties","functions"] []) :
  FnOk P w K mg base CX0 33 fL fdL ["_law_script"] (spLaw K):=by
 have SC:=zsb
 refine F.ok (k:=32) zsb (fun vs H Q E h=>?_) (fun cdv A outer s H vs Q E hr h=>?_)
 ·obtain⟨a,ns,rfl,_⟩:=h
  rfl
 ·obtain⟨aS,ns,rfl,hS,hns,q⟩:=h
  refine'⟨_,?derivation,?_⟩
  case derivation=>refine' pss_cons ?Aa ?Ba;(case Aa=>refine' ps_set (i:=1) (x:=Str.ofString "_law_elder") ?Ca ?Da ?Ea ?Fa ?Ga ?Ha;(case Ca=>exact SC.nd);(case Da=>exact rfl);(case Ea=>exact(Or.inl zsh));(case Fa=>exact pe_non);(case Ga=>rfl);case Ha=>exact .inl rfl);case Ba=>refine' pss_cons ?Ia ?Ja;(case Ia=>refine' ps_for PassesOwn.never rfl ?Ka ?La ?Ma ?Na;(case Ka=>refine' pi_list ?Oa;case Oa=>refine' pe_op op_cat ?Pa ?Qa;(case Pa=>refine' pe_lst ?Ra;case Ra=>refine' pa_cons ?Sa pa_nil ?Ta;(case Sa=>refine' pe_def (hdb:=zr1) D_law_cell (hr.mono (by omega)) zsg ?Ua rfl rfl;case Ua=>refine' pa_cons (pq 0 (visL zsp) zbp zbq) ?Va ?Wa;(case Va=>refine' pa_cons ?Xa pa_nil ?Ya;(case Xa=>exact pe_int);case Ya=>rfl);case Wa=>rfl);case Ta=>rfl);case Qa=>refine' pe_slice sl_list (pq 0 (visL zsp) zbp zbq) ?Za ?Ab;(case Za=>refine' po_some ?Bb;case Bb=>exact pe_int);case Ab=>refine' po_some ?Cb;case Cb=>exact pe_int);(case La=>refine' pg_name (i:=2) (x:=Str.ofString "_law_number") SC.nd rfl (Or.inl zsi) (.inl rfl));(case Ma=>refine' pss_cons ?Db ?Eb;(case Db=>refine' ps_set (i:=3) (x:=Str.ofString "_law_pot_here") ?Fb ?Gb ?Hb ?Ib ?Jb ?Kb;(case Fb=>exact SC.nd);(case Gb=>exact rfl);(case Hb=>exact(Or.inl zsl));(case Ib=>refine' pe_def (hdb:=zr8) D_law_pot (hr.mono (by omega)) zsk ?Lb rfl rfl;case Lb=>refine' pa_cons (pq 2 (visL zsi) zr4 zr5) pa_nil ?Mb;case Mb=>rfl);(case Jb=>rfl);case Kb=>exact .inl rfl);case Eb=>refine' pss_cons ?Nb ?Ob;(case Nb=>refine' ps_set (i:=4) (x:=Str.ofString "_law_book_here") ?Pb ?Qb ?Rb ?Sb ?Tb ?Ub;(case Pb=>exact SC.nd);(case Qb=>exact rfl);(case Rb=>exact(Or.inl zsf));(case Sb=>refine' pe_def (hdb:=zr0) D_law_book (hr.mono (by omega)) zse ?Vb rfl rfl;case Vb=>refine' pa_cons (pq 3 (visL zsl) zbn zbo) ?Wb ?Xb;(case Wb=>refine' pa_cons ?Yb ?Zb ?Ac;(case Yb=>exact pe_int);(case Zb=>refine' pa_cons ?Bc pa_nil ?Cc;(case Bc=>exact pe_int);case Cc=>rfl);case Ac=>rfl);case Xb=>rfl);(case Tb=>rfl);case Ub=>exact .inl rfl);case Ob=>refine' pss_cons ?Dc ?Ec;(case Dc=>refine' ps_set (i:=5) (x:=Str.ofString "_law_signs") ?Fc ?Gc ?Hc ?Ic ?Jc ?Kc;(case Fc=>exact SC.nd);(case Gc=>exact rfl);(case Hc=>exact(Or.inl zsq));(case Ic=>refine' pe_make (hdb:=zrz) M_Signs G_Signs (hr.mono (by omega)) zsc m_Signs b_Signs .nil pass0 ?Lc rfl rfl;case Lc=>refine' pa_cons ?Mc ?Nc ?Oc;(case Mc=>refine' pe_ix ix_tup (pq 4 (visL zsf) zob zoc) ?Pc ?Qc;(case Pc=>exact pe_int);case Qc=>intro _ _;exact rfl);(case Nc=>refine' pa_cons ?Rc ?Sc ?Tc;(case Rc=>refine' pe_ix ix_tup (pq 4 (visL zsf) zob zoc) ?Uc ?Vc;(case Uc=>exact pe_int);case Vc=>intro _ _;exact rfl);(case Sc=>refine' pa_cons ?Wc pa_nil ?Xc;(case Wc=>refine' pe_ix ix_tup (pq 4 (visL zsf) zob zoc) ?Yc ?Zc;(case Yc=>exact pe_int);case Zc=>intro _ _;exact rfl);case Xc=>rfl);case Tc=>rfl);case Oc=>rfl);(case Jc=>rfl);case Kc=>exact .inl rfl);case Ec=>refine' pss_cons ?Ad ?Bd;(case Ad=>refine' ps_set (i:=6) (x:=Str.ofString "_law_saying_here") ?Cd ?Dd ?Ed ?Fd ?Gd ?Hd;(case Cd=>exact SC.nd);(case Dd=>exact rfl);(case Ed=>exact(Or.inl zso));(case Fd=>refine' pe_def (hdb:=zsa) D_law_saying (hr.mono (by omega)) zsn ?Id rfl rfl;case Id=>refine' pa_cons (pq 3 (visL zsl) zbn zbo) ?Jd ?Kd;(case Jd=>refine' pa_cons (pq 4 (visL zsf) zob zoc) ?Ld ?Md;(case Ld=>refine' pa_cons ?Nd pa_nil ?Od;(case Nd=>exact pe_int);case Od=>rfl);case Md=>rfl);case Kd=>rfl);(case Gd=>rfl);case Hd=>exact .inl rfl);case Bd=>refine' pss_cons ?Pd ?Qd;(case Pd=>refine' ps_if ?Rd ?Sd pss_nil;(case Rd=>refine' pt_not ?Td;case Td=>refine' pt_val ?Ud ?Vd;(case Ud=>refine' pe_def (hdb:=zr9) D_law_right (hr.mono (by omega)) zsm ?Wd rfl rfl;case Wd=>refine' pa_cons (pq 5 (visL zsq) zrf zrg) ?Xd ?Yd;(case Xd=>refine' pa_cons (pq 6 (visL zso) zrd zre) ?Zd ?Ae;(case Zd=>refine' pa_cons ?Be pa_nil ?Ce;(case Be=>refine' pe_def (hdb:=zqr) D_law_as (hr.mono (by omega)) zsd ?De rfl rfl;case De=>refine' pa_cons (pq 3 (visL zsl) zbn zbo) ?Ee ?Fe;(case Ee=>refine' pa_cons (pq 6 (visL zso) zrd zre) pa_nil ?Ge;case Ge=>rfl);case Fe=>rfl);case Ce=>rfl);case Ae=>rfl);case Yd=>rfl);case Vd=>intro _; rfl);case Sd=>refine' pss_one ?He;case He=>refine' ps_ret ?Ie;case Ie=>exact pe_bl);case Qd=>refine' pss_cons ?Je ?Ke;(case Je=>refine' ps_set (i:=7) (x:=Str.ofString "_law_other") ?Le ?Me ?Ne ?Oe ?Pe ?Qe;(case Le=>exact SC.nd);(case Me=>exact rfl);(case Ne=>exact(Or.inl zsj));(case Oe=>refine' pe_def (hdb:=zsa) D_law_saying (hr.mono (by omega)) zsn ?Re rfl rfl;case Re=>refine' pa_cons (pq 3 (visL zsl) zbn zbo) ?Se ?Te;(case Se=>refine' pa_cons (pq 4 (visL zsf) zob zoc) ?Ue ?Ve;(case Ue=>refine' pa_cons ?We pa_nil ?Xe;(case We=>exact pe_int);case Xe=>rfl);case Ve=>rfl);case Te=>rfl);(case Pe=>rfl);case Qe=>exact .inl rfl);case Ke=>refine' pss_cons ?Ye ?Ze;(case Ye=>refine' ps_if ?Af ?Bf pss_nil;(case Af=>refine' PW.pt ?Cf;case Cf=>refine' pw_or ?Df ?Ef;(case Df=>refine' pt_not ?Ff;case Ff=>refine' pt_val ?Gf ?Hf;(case Gf=>refine' pe_def (hdb:=zr9) D_law_right (hr.mono (by omega)) zsm ?If rfl rfl;case If=>refine' pa_cons (pq 5 (visL zsq) zrf zrg) ?Jf ?Kf;(case Jf=>refine' pa_cons (pq 7 (visL zsj) zr6 zr7) ?Lf ?Mf;(case Lf=>refine' pa_cons (pq 7 (visL zsj) zr6 zr7) pa_nil ?Nf;case Nf=>rfl);case Mf=>rfl);case Kf=>rfl);case Hf=>intro _; rfl);case Ef=>refine' pw_or1 ?Of;case Of=>refine' pt_not ?Pf;case Pf=>refine' pt_val ?Qf ?Rf;(case Qf=>refine' pe_def (hdb:=zr9) D_law_right (hr.mono (by omega)) zsm ?Sf rfl rfl;case Sf=>refine' pa_cons (pq 5 (visL zsq) zrf zrg) ?Tf ?Uf;(case Tf=>refine' pa_cons (pq 6 (visL zso) zrd zre) ?Vf ?Wf;(case Vf=>refine' pa_cons (pq 6 (visL zso) zrd zre) pa_nil ?Xf;case Xf=>rfl);case Wf=>rfl);case Uf=>rfl);case Rf=>intro _; rfl);case Bf=>refine' pss_one ?Yf;case Yf=>refine' ps_ret ?Zf;case Zf=>exact pe_bl);case Ze=>refine' pss_cons ?Ag ?Bg;(case Ag=>refine' ps_if ?Cg ?Dg pss_nil;(case Cg=>refine' PW.pt ?Eg;case Eg=>refine' pw_and ?Fg ?Gg;(case Fg=>refine' pt_cmpR op_notN (pq 1 (visL zsh) zr2 zr3) ?Hg (nomark _);case Hg=>exact pe_non);case Gg=>refine' pw_and1 ?Ig;case Ig=>refine' pt_not ?Jg;case Jg=>refine' pt_val ?Kg ?Lg;(case Kg=>refine' pe_def (hdb:=zr9) D_law_right (hr.mono (by omega)) zsm ?Mg rfl rfl;case Mg=>refine' pa_cons ?Ng ?Og ?Pg;(case Ng=>refine' pe_ix ix_tup (pq 1 (visL zsh) zr2 zr3) ?Qg ?Rg;(case Qg=>exact pe_int);case Rg=>intro _ _;exact rfl);(case Og=>refine' pa_cons ?Sg ?Tg ?Ug;(case Sg=>refine' pe_ix ix_tup (pq 1 (visL zsh) zr2 zr3) ?Vg ?Wg;(case Vg=>exact pe_int);case Wg=>intro _ _;exact rfl);(case Tg=>refine' pa_cons ?Xg pa_nil ?Yg;(case Xg=>refine' pe_ix ix_tup (pq 1 (visL zsh) zr2 zr3) ?Zg ?Ah;(case Zg=>exact pe_int);case Ah=>intro _ _;exact rfl);case Yg=>rfl);case Ug=>rfl);case Pg=>rfl);case Lg=>intro _; rfl);case Dg=>refine' pss_one ?Bh;case Bh=>refine' ps_ret ?Ch;case Ch=>exact pe_bl);case Bg=>refine' pss_one ?Dh;case Dh=>refine' ps_set (i:=1) (x:=Str.ofString "_law_elder") ?Eh ?Fh ?Gh ?Hh ?Ih ?Jh;(case Eh=>exact SC.nd);(case Fh=>exact rfl);(case Gh=>exact(Or.inl zsh));(case Hh=>refine' pe_tup ?Kh;case Kh=>refine' pa_cons (pq 5 (visL zsq) zrf zrg) ?Lh ?Mh;(case Lh=>refine' pa_cons (pq 6 (visL zso) zrd zre) pa_nil ?Nh;case Nh=>rfl);case Mh=>rfl);(case Ih=>rfl);case Jh=>exact .inl rfl);case Na=>intro _; rfl);case Ja=>refine' pss_one ?Oh;case Oh=>refine' ps_ret ?Ph;case Ph=>exact pe_bl
  refine⟨_,rfl,aS,ns,0,rfl,hS,fun n0=>?_⟩
  refine⟨by show 1≤sizeLine; decide,fun l1 hl1=>?_⟩
  have s1:=same_new hl1 (.lst [.int n0])
  refine⟨_,rfl,_,rfl,_,rfl,aS,_,rfl,s1.seq hS,fun l2 hl2=>?_⟩
  have s2:=same_new hl2 (.lst (cutV (ns.map V.int) (some 1) (some 8)))
  have cl:=cutV_length (ns.map V.int) (some 1) (some 8)
  rw [List.length_map] at cl
  refine⟨l1,l2,_,_,rfl,rfl,s2 _ _ upd_same,upd_same,Nat.le_trans (show 1+(cutV (ns.map V.int) (some 1) (some 8)).length≤100 by omega) (by decide),fun L hL=>?_⟩
  generalize hxs:[V.int n0]++cutV (ns.map V.int) (some 1) (some 8)=xs
  have allI:∀ y∈xs,∃ z,y=V.int z:=fun y hy=>by
   rw [← hxs] at hy
   rcases List.mem_append.mp hy with hy | hy
   ·exact⟨n0,List.mem_singleton.mp hy⟩
   ·obtain⟨z,_,rfl⟩:=List.mem_map.mp (mem_cut hy)
    exact⟨z,rfl⟩
  have hLx:(upd (upd (upd H l1 (.lst [.int n0])) l2 (.lst (cutV (ns.map V.int) (some 1) (some 8)))) L (.lst xs)) L=some (.lst xs):=upd_same
  generalize (upd (upd (upd H l1 (.lst [.int n0])) l2 (.lst (cutV (ns.map V.int) (some 1) (some 8)))) L (.lst xs))=HL at hLx
  refine⟨L,rfl,⟨_,SqL.of hLx⟩,for_list (K:=K) (a:=L) (xs:=xs) (fun i σ H2=>∃ e v2 v3 v4 v5 v6 v7,σ=[some (.ref aS),some e,v2,v3,v4,v5,v6,v7]∧Same HL H2∧ElAt C H2 e)
   ⟨.non,_,_,_,_,_,_,rfl,Same.refl _,.inl rfl⟩ (fun i σ H2 _ ⟨_,_,_,_,_,_,_,_,z,_⟩=>SqL.of (z _ _ hLx)) ?_ ?_⟩
  case refine_2=>
   rintro σ H2 ⟨e,v2,v3,v4,v5,v6,v7,rfl,_,_⟩
   exact q H2
  rintro i y σ H2 hi ⟨e,v2,v3,v4,v5,v6,v7,rfl,sL,hel⟩
  obtain⟨n,rfl⟩:=allI y (List.mem_of_getElem? hi)
  refine⟨_,rfl,n,rfl,fun p H3 hp pot3 s3=>?_⟩
  refine⟨_,rfl,p,3,6,rfl,pot3,by decide,by decide,by decide,fun bv H4 ks ts fs rb ok _ _ W4=>?_⟩
  have np3:∀ a,H3 a=none→a≠p:=fun a e=>by rintro rfl; obtain⟨o,e2⟩:=pot3.some; rw [e] at e2; cases e2
  have rb4:RdV (fun a=>a≠p) H4 bv (bookL ks ts fs):=rb.mono (fun a z=>np3 a z) fun _ _ _ e=>e
  obtain⟨b,_,rfl,_,_,_⟩:=id (RdV.tuple_inv rb4)
  obtain⟨kA,tA,fA,tv,fv,b1,nk,k1,nt,t1,t2,nf,f1,f2⟩:=BkAt.open rb4
  refine⟨_,rfl,b,_,_,_,rfl,rfl,SqT.of b1,rfl,_,rfl,b,_,_,_,rfl,rfl,SqT.of b1,rfl,_,rfl,b,_,_,_,rfl,rfl,SqT.of b1,rfl,fun x dx hx hd nd=>?_⟩
  have s6:=same_make (CB:=C) hx hd nd
  obtain⟨ab,rfl,sab⟩:=tiesL_sgs (t2.same s6)
  obtain⟨cd,rfl,scd⟩:=funsL_sgs (f2.same s6)
  refine⟨x,dx,kA,tA,fA,ab,cd,ks,ts,fs,rfl,upd_same,.inl (s6 _ _ k1),.inl (s6 _ _ t1),sab,.inl (s6 _ _ f1),scd,ok,fun H7 g7 x7=>⟨rfl,?_⟩⟩
  have s47:=same_made hx s6 x7
  have W37:Went p H3 H7:=⟨W4.pot.keep s47,W4.same.same s47⟩
  have nx:x≠p:=np3 _ (W4.free hx)
  have rb7:BkAt H7 p b ks ts fs:=RdV.same s47 rb4
  refine⟨_,rfl,_,rfl,p,b,ks,ts,fs,rfl,W37.pot,rb7,ok,fun v H8 t tp sy ft w8=>?_⟩
  have g8:SignsAt C H8 x ks ts fs:=g7.keep (fun o e=>w8.same x o nx e) (pot_tups W37.pot w8.same)
  have y8:SyAt C H8 x v ks ts fs t:=⟨g8,ok,tp,sy,ft⟩
  have W38:=W37.trans w8
  refine⟨_,rfl,_,rfl,_,rfl,_,rfl,p,v,t,rfl,W38.pot,tp,ft.dp,ft.wt,fun u H9 mu w9=>?_⟩
  have W39:=W38.trans w9
  have y9:=y8.went W38.pot nx w9.same
  refine⟨x,v,u,ks,ts,fs,t,rfl,y9.sg,ok,y9.tp,mu,sy,ft,fun H10 s10=>⟨true,rfl,iteF ?_⟩⟩
  have W30:Went p H3 H10:=⟨W39.pot.keep s10,W39.same.same s10⟩
  have y10:=y9.same s10
  have rb10:BkAt H10 p b ks ts fs:=RdV.same s10 (RdV.went rb7 (w8.trans w9).same)
  refine⟨_,rfl,_,rfl,p,b,ks,ts,fs,rfl,W30.pot,rb10,ok,fun v' H11 t' tp' sy' ft' w11=>?_⟩
  have W31:=W30.trans w11
  have y11:=y10.went W30.pot nx w11.same
  refine⟨_,rfl,_,rfl,_,rfl,x,v',v',ks,ts,fs,t',rfl,y11.sg,ok,tp',tup_mix tp',sy',ft',fun H12 s12=>⟨true,rfl,iteF ?_⟩⟩
  have y12:=y11.same s12
  refine⟨_,rfl,_,rfl,_,rfl,x,v,v,ks,ts,fs,t,rfl,y12.sg,ok,y12.tp,tup_mix y12.tp,sy,ft,fun H13 s13=>⟨true,rfl,iteF ?_⟩⟩
  have y13:=y12.same s13
  have s213:Same H2 H13:=same_made hp s3 (W31.same.same (s12.trans s13))
  have el13:=hel.same s213
  dsimp only [tNext]
  refine seq_mid (fun σ' H'=>σ'=[some (.ref aS),some e,some (.int n),some (.ref p),some (.ref b),some (.ref x),some v,some v']∧Same H13 H') ?_ (fun go=>?_)
  ·rintro σ' H14 ⟨rfl,s14⟩
   refine⟨_,rfl,_,rfl,by show 2≤sizeLine; decide,fun te hte=>⟨.ref te,_,_,_,_,_,_,rfl,(sL.trans (s213.trans s14)).trans (same_new hte _),.inr ⟨te,x,v,ks,ts,fs,t,rfl,upd_same,(y13.same s14).same (same_new hte _)⟩⟩⟩
  ·refine⟨_,rfl,rfl,_,rfl,?_⟩
   rcases el13 with rfl | ⟨a,g',ve,ks',ts',fs',te,rfl,e1,e2⟩
   ·exact ifF (by simp) (ifF (by simp) (go _ _ ⟨rfl,Same.refl _⟩))
   ·exact ifT (by simp) ⟨_,rfl,a,_,0,_,rfl,rfl,SqT.of e1,rfl,_,rfl,a,_,1,_,rfl,rfl,SqT.of e1,rfl,_,rfl,a,_,1,_,rfl,rfl,SqT.of e1,rfl,g',ve,ve,ks',ts',fs',te,rfl,e2.sg,e2.ok,e2.tp,tup_mix e2.tp,e2.sy,e2.ft,fun H14 s14=>⟨true,rfl,iteF (go _ _ ⟨rfl,s14⟩)⟩⟩
end
end Few
set_option maxHeartbeats 4000000
namespace FewE
open PySem L2 Few
theorem funAt_mk {K:PySem.W.Frag} {h:Heap} {mg:Str→Option Value} {x:Str} {st:Stmt} {ps:List Str} {f:Addr} {oc kV dc pm cd ct:Value} {od an:Option Addr} {sl:Array (Option Value)} (X:K.In h) (G:h.Ns mainGlobals mg)
  (a:PySem.W.nsIn K mainGlobals x=some (some (.ref f))) (l:K.lookup f=some ⟨oc,od,.func (PySem.W.fnOf x x (defArgs st) (defBody st) (defScope st) .none kV dc pm an cd ct),sl⟩) (c:PySem.W.codeIn K cd x=true) (k:PySem.W.keepIn K (.ref f)=true)
  (b:∀ (kV doc pm:Value) (an:Option Addr) (cdv ct:Value) (us:List Value),us.length=ps.length→bindArgs (PySem.W.fnOf x x (defArgs st) (defBody st) (defScope st) .none kV doc pm an cdv ct) ⟨us,[]⟩=pure (ps.zip us)):FunAt K mg x st ps:=
 ⟨f,_,fun_mk l c k,PySem.W.mg_of X G a,(fun_mk (st:=st) l c k).binds b⟩
theorem all_mk {l:PySem.W.OpenLaw} {w:World} {K:PySem.W.Frag} {h:Heap} {mg:Str→Option Value} {fa C CB wa:Addr} {f0:Addr} {oc0 kV0 dc0 pm0 cd0 ct0:Value} {od0 an0:Option Addr} {sl0:Array (Option Value)} {f1:Addr} {oc1 kV1 dc1 pm1 cd1 ct1:Value} {od1 an1:Option Addr} {sl1:Array (Option Value)} {f2:Addr} {oc2 kV2 dc2 pm2 cd2 ct2:Value} {od2 an2:Option Addr} {sl2:Array (Option Value)} {f3:Addr} {oc3 kV3 dc3 pm3 cd3 ct3:Value} {od3 an3:Option Addr} {sl3:Array (Option Value)} {f4:Addr} {oc4 kV4 dc4 pm4 cd4 ct4:Value} {od4 an4:Option Addr} {sl4:Array (Option Value)} {f5:Addr} {oc5 kV5 dc5 pm5 cd5 ct5:Value} {od5 an5:Option Addr} {sl5:Array (Option Value)} {f6:Addr} {oc6 kV6 dc6 pm6 cd6 ct6:Value} {od6 an6:Option Addr} {sl6:Array (Option Value)} {f7:Addr} {oc7 kV7 dc7 pm7 cd7 ct7:Value} {od7 an7:Option Addr} {sl7:Array (Option Value)} {f8:Addr} {oc8 kV8 dc8 pm8 cd8 ct8:Value} {od8 an8:Option Addr} {sl8:Array (Option Value)} {f9:Addr} {oc9 kV9 dc9 pm9 cd9 ct9:Value} {od9 an9:Option Addr} {sl9:Array (Option Value)} {f10:Addr} {oc10 kV10 dc10 pm10 cd10 ct10:Value} {od10 an10:Option Addr} {sl10:Array (Option Value)} {f11:Addr} {oc11 kV11 dc11 pm11 cd11 ct11:Value} {od11 an11:Option Addr} {sl11:Array (Option Value)} {f12:Addr} {oc12 kV12 dc12 pm12 cd12 ct12:Value} {od12 an12:Option Addr} {sl12:Array (Option Value)} {f13:Addr} {oc13 kV13 dc13 pm13 cd13 ct13:Value} {od13 an13:Option Addr} {sl13:Array (Option Value)} {f14:Addr} {oc14 kV14 dc14 pm14 cd14 ct14:Value} {od14 an14:Option Addr} {sl14:Array (Option Value)} {f15:Addr} {oc15 kV15 dc15 pm15 cd15 ct15:Value} {od15 an15:Option Addr} {sl15:Array (Option Value)} {f16:Addr} {oc16 kV16 dc16 pm16 cd16 ct16:Value} {od16 an16:Option Addr} {sl16:Array (Option Value)} {f17:Addr} {oc17 kV17 dc17 pm17 cd17 ct17:Value} {od17 an17:Option Addr} {sl17:Array (Option Value)} {f18:Addr} {oc18 kV18 dc18 pm18 cd18 ct18:Value} {od18 an18:Option Addr} {sl18:Array (Option Value)} {f19:Addr} {oc19 kV19 dc19 pm19 cd19 ct19:Value} {od19 an19:Option Addr} {sl19:Array (Option Value)} {f20:Addr} {oc20 kV20 dc20 pm20 cd20 ct20:Value} {od20 an20:Option Addr} {sl20:Array (Option Value)} {f21:Addr} {oc21 kV21 dc21 pm21 cd21 ct21:Value} {od21 an21:Option Addr} {sl21:Array (Option Value)} {f22:Addr} {oc22 kV22 dc22 pm22 cd22 ct22:Value} {od22 an22:Option Addr} {sl22:Array (Option Value)} {f23:Addr} {oc23 kV23 dc23 pm23 cd23 ct23:Value} {od23 an23:Option Addr} {sl23:Array (Option Value)} {f24:Addr} {oc24 kV24 dc24 pm24 cd24 ct24:Value} {od24 an24:Option Addr} {sl24:Array (Option Value)} {f25:Addr} {oc25 kV25 dc25 pm25 cd25 ct25:Value} {od25 an25:Option Addr} {sl25:Array (Option Value)} {f26:Addr} {oc26 kV26 dc26 pm26 cd26 ct26:Value} {od26 an26:Option Addr} {sl26:Array (Option Value)} {f27:Addr} {oc27 kV27 dc27 pm27 cd27 ct27:Value} {od27 an27:Option Addr} {sl27:Array (Option Value)} {f28:Addr} {oc28 kV28 dc28 pm28 cd28 ct28:Value} {od28 an28:Option Addr} {sl28:Array (Option Value)} {f29:Addr} {oc29 kV29 dc29 pm29 cd29 ct29:Value} {od29 an29:Option Addr} {sl29:Array (Option Value)} {f30:Addr} {oc30 kV30 dc30 pm30 cd30 ct30:Value} {od30 an30:Option Addr} {sl30:Array (Option Value)} {f31:Addr} {oc31 kV31 dc31 pm31 cd31 ct31:Value} {od31 an31:Option Addr} {sl31:Array (Option Value)} {f32:Addr} {oc32 kV32 dc32 pm32 cd32 ct32:Value} {od32 an32:Option Addr} {sl32:Array (Option Value)} {f33:Addr} {oc33 kV33 dc33 pm33 cd33 ct33:Value} {od33 an33:Option Addr} {sl33:Array (Option Value)} {f34:Addr} {oc34 kV34 dc34 pm34 cd34 ct34:Value} {od34 an34:Option Addr} {sl34:Array (Option Value)} {f35:Addr} {oc35 kV35 dc35 pm35 cd35 ct35:Value} {od35 an35:Option Addr} {sl35:Array (Option Value)} {f36:Addr} {oc36 kV36 dc36 pm36 cd36 ct36:Value} {od36 an36:Option Addr} {sl36:Array (Option Value)} {f37:Addr} {oc37 kV37 dc37 pm37 cd37 ct37:Value} {od37 an37:Option Addr} {sl37:Array (Option Value)} {f38:Addr} {oc38 kV38 dc38 pm38 cd38 ct38:Value} {od38 an38:Option Addr} {sl38:Array (Option Value)} {f39:Addr} {oc39 kV39 dc39 pm39 cd39 ct39:Value} {od39 an39:Option Addr} {sl39:Array (Option Value)} {f40:Addr} {oc40 kV40 dc40 pm40 cd40 ct40:Value} {od40 an40:Option Addr} {sl40:Array (Option Value)} {tL:Tok} {tI0:Tok} {tI1:Tok} {tI2:Tok} {tI3:Tok} {tI4:Tok} {tw0 tw1 tw2 tw3 tw4:Tok} {wd:Option Addr} {wn:Nat} {ws:Array (Option Value)} (X:K.In h) (G:h.Ns mainGlobals mg) (hfa:mg "law"=some (.ref fa))
  (a0:PySem.W.nsIn K mainGlobals "_law_cell"=some (some (.ref f0)))
  (l0:K.lookup f0=some ⟨oc0,od0,.func (PySem.W.fnOf "_law_cell" "_law_cell" (defArgs s_law_cell) (defBody s_law_cell) (defScope s_law_cell) .none kV0 dc0 pm0 an0 cd0 ct0),sl0⟩)
  (c0:PySem.W.codeIn K cd0 "_law_cell"=true)
  (k0:PySem.W.keepIn K (.ref f0)=true)
  (a1:PySem.W.nsIn K mainGlobals "_law_pot"=some (some (.ref f1)))
  (l1:K.lookup f1=some ⟨oc1,od1,.func (PySem.W.fnOf "_law_pot" "_law_pot" (defArgs s_law_pot) (defBody s_law_pot) (defScope s_law_pot) .none kV1 dc1 pm1 an1 cd1 ct1),sl1⟩)
  (c1:PySem.W.codeIn K cd1 "_law_pot"=true)
  (k1:PySem.W.keepIn K (.ref f1)=true)
  (a2:PySem.W.nsIn K mainGlobals "_law_draw"=some (some (.ref f2)))
  (l2:K.lookup f2=some ⟨oc2,od2,.func (PySem.W.fnOf "_law_draw" "_law_draw" (defArgs s_law_draw) (defBody s_law_draw) (defScope s_law_draw) .none kV2 dc2 pm2 an2 cd2 ct2),sl2⟩)
  (c2:PySem.W.codeIn K cd2 "_law_draw"=true)
  (k2:PySem.W.keepIn K (.ref f2)=true)
  (a3:PySem.W.nsIn K mainGlobals "_law_unlike"=some (some (.ref f3)))
  (l3:K.lookup f3=some ⟨oc3,od3,.func (PySem.W.fnOf "_law_unlike" "_law_unlike" (defArgs s_law_unlike) (defBody s_law_unlike) (defScope s_law_unlike) .none kV3 dc3 pm3 an3 cd3 ct3),sl3⟩)
  (c3:PySem.W.codeIn K cd3 "_law_unlike"=true)
  (k3:PySem.W.keepIn K (.ref f3)=true)
  (a4:PySem.W.nsIn K mainGlobals "_law_book"=some (some (.ref f4)))
  (l4:K.lookup f4=some ⟨oc4,od4,.func (PySem.W.fnOf "_law_book" "_law_book" (defArgs s_law_book) (defBody s_law_book) (defScope s_law_book) .none kV4 dc4 pm4 an4 cd4 ct4),sl4⟩)
  (c4:PySem.W.codeIn K cd4 "_law_book"=true)
  (k4:PySem.W.keepIn K (.ref f4)=true)
  (a5:PySem.W.nsIn K mainGlobals "_law_meant"=some (some (.ref f5)))
  (l5:K.lookup f5=some ⟨oc5,od5,.func (PySem.W.fnOf "_law_meant" "_law_meant" (defArgs s_law_meant) (defBody s_law_meant) (defScope s_law_meant) .none kV5 dc5 pm5 an5 cd5 ct5),sl5⟩)
  (c5:PySem.W.codeIn K cd5 "_law_meant"=true)
  (k5:PySem.W.keepIn K (.ref f5)=true)
  (a6:PySem.W.nsIn K mainGlobals "_law_variable"=some (some (.ref f6)))
  (l6:K.lookup f6=some ⟨oc6,od6,.func (PySem.W.fnOf "_law_variable" "_law_variable" (defArgs s_law_variable) (defBody s_law_variable) (defScope s_law_variable) .none kV6 dc6 pm6 an6 cd6 ct6),sl6⟩)
  (c6:PySem.W.codeIn K cd6 "_law_variable"=true)
  (k6:PySem.W.keepIn K (.ref f6)=true)
  (a7:PySem.W.nsIn K mainGlobals "_law_term"=some (some (.ref f7)))
  (l7:K.lookup f7=some ⟨oc7,od7,.func (PySem.W.fnOf "_law_term" "_law_term" (defArgs s_law_term) (defBody s_law_term) (defScope s_law_term) .none kV7 dc7 pm7 an7 cd7 ct7),sl7⟩)
  (c7:PySem.W.codeIn K cd7 "_law_term"=true)
  (k7:PySem.W.keepIn K (.ref f7)=true)
  (a8:PySem.W.nsIn K mainGlobals "_law_atom"=some (some (.ref f8)))
  (l8:K.lookup f8=some ⟨oc8,od8,.func (PySem.W.fnOf "_law_atom" "_law_atom" (defArgs s_law_atom) (defBody s_law_atom) (defScope s_law_atom) .none kV8 dc8 pm8 an8 cd8 ct8),sl8⟩)
  (c8:PySem.W.codeIn K cd8 "_law_atom"=true)
  (k8:PySem.W.keepIn K (.ref f8)=true)
  (a9:PySem.W.nsIn K mainGlobals "_law_saying_in"=some (some (.ref f9)))
  (l9:K.lookup f9=some ⟨oc9,od9,.func (PySem.W.fnOf "_law_saying_in" "_law_saying_in" (defArgs s_law_saying_in) (defBody s_law_saying_in) (defScope s_law_saying_in) .none kV9 dc9 pm9 an9 cd9 ct9),sl9⟩)
  (c9:PySem.W.codeIn K cd9 "_law_saying_in"=true)
  (k9:PySem.W.keepIn K (.ref f9)=true)
  (a10:PySem.W.nsIn K mainGlobals "_law_saying"=some (some (.ref f10)))
  (l10:K.lookup f10=some ⟨oc10,od10,.func (PySem.W.fnOf "_law_saying" "_law_saying" (defArgs s_law_saying) (defBody s_law_saying) (defScope s_law_saying) .none kV10 dc10 pm10 an10 cd10 ct10),sl10⟩)
  (c10:PySem.W.codeIn K cd10 "_law_saying"=true)
  (k10:PySem.W.keepIn K (.ref f10)=true)
  (a11:PySem.W.nsIn K mainGlobals "_law_as"=some (some (.ref f11)))
  (l11:K.lookup f11=some ⟨oc11,od11,.func (PySem.W.fnOf "_law_as" "_law_as" (defArgs s_law_as) (defBody s_law_as) (defScope s_law_as) .none kV11 dc11 pm11 an11 cd11 ct11),sl11⟩)
  (c11:PySem.W.codeIn K cd11 "_law_as"=true)
  (k11:PySem.W.keepIn K (.ref f11)=true)
  (a12:PySem.W.nsIn K mainGlobals "_law_written"=some (some (.ref f12)))
  (l12:K.lookup f12=some ⟨oc12,od12,.func (PySem.W.fnOf "_law_written" "_law_written" (defArgs s_law_written) (defBody s_law_written) (defScope s_law_written) .none kV12 dc12 pm12 an12 cd12 ct12),sl12⟩)
  (c12:PySem.W.codeIn K cd12 "_law_written"=true)
  (k12:PySem.W.keepIn K (.ref f12)=true)
  (a13:PySem.W.nsIn K mainGlobals "_law_right"=some (some (.ref f13)))
  (l13:K.lookup f13=some ⟨oc13,od13,.func (PySem.W.fnOf "_law_right" "_law_right" (defArgs s_law_right) (defBody s_law_right) (defScope s_law_right) .none kV13 dc13 pm13 an13 cd13 ct13),sl13⟩)
  (c13:PySem.W.codeIn K cd13 "_law_right"=true)
  (k13:PySem.W.keepIn K (.ref f13)=true)
  (a14:PySem.W.nsIn K mainGlobals "is_list"=some (some (.ref f14)))
  (l14:K.lookup f14=some ⟨oc14,od14,.func (PySem.W.fnOf "is_list" "is_list" (defArgs s_is_list) (defBody s_is_list) (defScope s_is_list) .none kV14 dc14 pm14 an14 cd14 ct14),sl14⟩)
  (c14:PySem.W.codeIn K cd14 "is_list"=true)
  (k14:PySem.W.keepIn K (.ref f14)=true)
  (a15:PySem.W.nsIn K mainGlobals "is_name"=some (some (.ref f15)))
  (l15:K.lookup f15=some ⟨oc15,od15,.func (PySem.W.fnOf "is_name" "is_name" (defArgs s_is_name) (defBody s_is_name) (defScope s_is_name) .none kV15 dc15 pm15 an15 cd15 ct15),sl15⟩)
  (c15:PySem.W.codeIn K cd15 "is_name"=true)
  (k15:PySem.W.keepIn K (.ref f15)=true)
  (a16:PySem.W.nsIn K mainGlobals "check_apart"=some (some (.ref f16)))
  (l16:K.lookup f16=some ⟨oc16,od16,.func (PySem.W.fnOf "check_apart" "check_apart" (defArgs s_check_apart) (defBody s_check_apart) (defScope s_check_apart) .none kV16 dc16 pm16 an16 cd16 ct16),sl16⟩)
  (c16:PySem.W.codeIn K cd16 "check_apart"=true)
  (k16:PySem.W.keepIn K (.ref f16)=true)
  (a17:PySem.W.nsIn K mainGlobals "checked_kinds"=some (some (.ref f17)))
  (l17:K.lookup f17=some ⟨oc17,od17,.func (PySem.W.fnOf "checked_kinds" "checked_kinds" (defArgs s_checked_kinds) (defBody s_checked_kinds) (defScope s_checked_kinds) .none kV17 dc17 pm17 an17 cd17 ct17),sl17⟩)
  (c17:PySem.W.codeIn K cd17 "checked_kinds"=true)
  (k17:PySem.W.keepIn K (.ref f17)=true)
  (a18:PySem.W.nsIn K mainGlobals "checked_kind"=some (some (.ref f18)))
  (l18:K.lookup f18=some ⟨oc18,od18,.func (PySem.W.fnOf "checked_kind" "checked_kind" (defArgs s_checked_kind) (defBody s_checked_kind) (defScope s_checked_kind) .none kV18 dc18 pm18 an18 cd18 ct18),sl18⟩)
  (c18:PySem.W.codeIn K cd18 "checked_kind"=true)
  (k18:PySem.W.keepIn K (.ref f18)=true)
  (a19:PySem.W.nsIn K mainGlobals "checked_places"=some (some (.ref f19)))
  (l19:K.lookup f19=some ⟨oc19,od19,.func (PySem.W.fnOf "checked_places" "checked_places" (defArgs s_checked_places) (defBody s_checked_places) (defScope s_checked_places) .none kV19 dc19 pm19 an19 cd19 ct19),sl19⟩)
  (c19:PySem.W.codeIn K cd19 "checked_places"=true)
  (k19:PySem.W.keepIn K (.ref f19)=true)
  (a20:PySem.W.nsIn K mainGlobals "checked_sign_name"=some (some (.ref f20)))
  (l20:K.lookup f20=some ⟨oc20,od20,.func (PySem.W.fnOf "checked_sign_name" "checked_sign_name" (defArgs s_checked_sign_name) (defBody s_checked_sign_name) (defScope s_checked_sign_name) .none kV20 dc20 pm20 an20 cd20 ct20),sl20⟩)
  (c20:PySem.W.codeIn K cd20 "checked_sign_name"=true)
  (k20:PySem.W.keepIn K (.ref f20)=true)
  (a21:PySem.W.nsIn K mainGlobals "checked_tie"=some (some (.ref f21)))
  (l21:K.lookup f21=some ⟨oc21,od21,.func (PySem.W.fnOf "checked_tie" "checked_tie" (defArgs s_checked_tie) (defBody s_checked_tie) (defScope s_checked_tie) .none kV21 dc21 pm21 an21 cd21 ct21),sl21⟩)
  (c21:PySem.W.codeIn K cd21 "checked_tie"=true)
  (k21:PySem.W.keepIn K (.ref f21)=true)
  (a22:PySem.W.nsIn K mainGlobals "checked_function"=some (some (.ref f22)))
  (l22:K.lookup f22=some ⟨oc22,od22,.func (PySem.W.fnOf "checked_function" "checked_function" (defArgs s_checked_function) (defBody s_checked_function) (defScope s_checked_function) .none kV22 dc22 pm22 an22 cd22 ct22),sl22⟩)
  (c22:PySem.W.codeIn K cd22 "checked_function"=true)
  (k22:PySem.W.keepIn K (.ref f22)=true)
  (a23:PySem.W.nsIn K mainGlobals "check_many"=some (some (.ref f23)))
  (l23:K.lookup f23=some ⟨oc23,od23,.func (PySem.W.fnOf "check_many" "check_many" (defArgs s_check_many) (defBody s_check_many) (defScope s_check_many) .none kV23 dc23 pm23 an23 cd23 ct23),sl23⟩)
  (c23:PySem.W.codeIn K cd23 "check_many"=true)
  (k23:PySem.W.keepIn K (.ref f23)=true)
  (a24:PySem.W.nsIn K mainGlobals "word_and_things"=some (some (.ref f24)))
  (l24:K.lookup f24=some ⟨oc24,od24,.func (PySem.W.fnOf "word_and_things" "word_and_things" (defArgs s_word_and_things) (defBody s_word_and_things) (defScope s_word_and_things) .none kV24 dc24 pm24 an24 cd24 ct24),sl24⟩)
  (c24:PySem.W.codeIn K cd24 "word_and_things"=true)
  (k24:PySem.W.keepIn K (.ref f24)=true)
  (a25:PySem.W.nsIn K mainGlobals "checked_row"=some (some (.ref f25)))
  (l25:K.lookup f25=some ⟨oc25,od25,.func (PySem.W.fnOf "checked_row" "checked_row" (defArgs s_checked_row) (defBody s_checked_row) (defScope s_checked_row) .none kV25 dc25 pm25 an25 cd25 ct25),sl25⟩)
  (c25:PySem.W.codeIn K cd25 "checked_row"=true)
  (k25:PySem.W.keepIn K (.ref f25)=true)
  (a26:PySem.W.nsIn K mainGlobals "checked_term"=some (some (.ref f26)))
  (l26:K.lookup f26=some ⟨oc26,od26,.func (PySem.W.fnOf "checked_term" "checked_term" (defArgs s_checked_term) (defBody s_checked_term) (defScope s_checked_term) .none kV26 dc26 pm26 an26 cd26 ct26),sl26⟩)
  (c26:PySem.W.codeIn K cd26 "checked_term"=true)
  (k26:PySem.W.keepIn K (.ref f26)=true)
  (a27:PySem.W.nsIn K mainGlobals "checked_equation"=some (some (.ref f27)))
  (l27:K.lookup f27=some ⟨oc27,od27,.func (PySem.W.fnOf "checked_equation" "checked_equation" (defArgs s_checked_equation) (defBody s_checked_equation) (defScope s_checked_equation) .none kV27 dc27 pm27 an27 cd27 ct27),sl27⟩)
  (c27:PySem.W.codeIn K cd27 "checked_equation"=true)
  (k27:PySem.W.keepIn K (.ref f27)=true)
  (a28:PySem.W.nsIn K mainGlobals "checked_binding"=some (some (.ref f28)))
  (l28:K.lookup f28=some ⟨oc28,od28,.func (PySem.W.fnOf "checked_binding" "checked_binding" (defArgs s_checked_binding) (defBody s_checked_binding) (defScope s_checked_binding) .none kV28 dc28 pm28 an28 cd28 ct28),sl28⟩)
  (c28:PySem.W.codeIn K cd28 "checked_binding"=true)
  (k28:PySem.W.keepIn K (.ref f28)=true)
  (a29:PySem.W.nsIn K mainGlobals "checked_saying"=some (some (.ref f29)))
  (l29:K.lookup f29=some ⟨oc29,od29,.func (PySem.W.fnOf "checked_saying" "checked_saying" (defArgs s_checked_saying) (defBody s_checked_saying) (defScope s_checked_saying) .none kV29 dc29 pm29 an29 cd29 ct29),sl29⟩)
  (c29:PySem.W.codeIn K cd29 "checked_saying"=true)
  (k29:PySem.W.keepIn K (.ref f29)=true)
  (a30:PySem.W.nsIn K mainGlobals "looked_over"=some (some (.ref f30)))
  (l30:K.lookup f30=some ⟨oc30,od30,.func (PySem.W.fnOf "looked_over" "looked_over" (defArgs s_looked_over) (defBody s_looked_over) (defScope s_looked_over) .none kV30 dc30 pm30 an30 cd30 ct30),sl30⟩)
  (c30:PySem.W.codeIn K cd30 "looked_over"=true)
  (k30:PySem.W.keepIn K (.ref f30)=true)
  (a31:PySem.W.nsIn K mainGlobals "write_saying"=some (some (.ref f31)))
  (l31:K.lookup f31=some ⟨oc31,od31,.func (PySem.W.fnOf "write_saying" "write_saying" (defArgs s_write_saying) (defBody s_write_saying) (defScope s_write_saying) .none kV31 dc31 pm31 an31 cd31 ct31),sl31⟩)
  (c31:PySem.W.codeIn K cd31 "write_saying"=true)
  (k31:PySem.W.keepIn K (.ref f31)=true)
  (a32:PySem.W.nsIn K mainGlobals "written"=some (some (.ref f32)))
  (l32:K.lookup f32=some ⟨oc32,od32,.func (PySem.W.fnOf "written" "written" (defArgs s_written) (defBody s_written) (defScope s_written) .none kV32 dc32 pm32 an32 cd32 ct32),sl32⟩)
  (c32:PySem.W.codeIn K cd32 "written"=true)
  (k32:PySem.W.keepIn K (.ref f32)=true)
  (a33:PySem.W.nsIn K mainGlobals "read_saying"=some (some (.ref f33)))
  (l33:K.lookup f33=some ⟨oc33,od33,.func (PySem.W.fnOf "read_saying" "read_saying" (defArgs s_read_saying) (defBody s_read_saying) (defScope s_read_saying) .none kV33 dc33 pm33 an33 cd33 ct33),sl33⟩)
  (c33:PySem.W.codeIn K cd33 "read_saying"=true)
  (k33:PySem.W.keepIn K (.ref f33)=true)
  (a34:PySem.W.nsIn K mainGlobals "bracketed"=some (some (.ref f34)))
  (l34:K.lookup f34=some ⟨oc34,od34,.func (PySem.W.fnOf "bracketed" "bracketed" (defArgs s_bracketed) (defBody s_bracketed) (defScope s_bracketed) .none kV34 dc34 pm34 an34 cd34 ct34),sl34⟩)
  (c34:PySem.W.codeIn K cd34 "bracketed"=true)
  (k34:PySem.W.keepIn K (.ref f34)=true)
  (a35:PySem.W.nsIn K mainGlobals "law"=some (some (.ref f35)))
  (l35:K.lookup f35=some ⟨oc35,od35,.func (PySem.W.fnOf "law" "law" (defArgs s_law) (defBody s_law) (defScope s_law) .none kV35 dc35 pm35 an35 cd35 ct35),sl35⟩)
  (c35:PySem.W.codeIn K cd35 "law"=true)
  (k35:PySem.W.keepIn K (.ref f35)=true)
  (aC:PySem.W.nsIn K mainGlobals "Signs"=some (some (.ref C)))
  (aCB:PySem.W.nsIn K mainGlobals "SignTable"=some (some (.ref CB)))
  (a36:PySem.W.findIn K (.ref C) "__init__"=some (some (.ref f36)))
  (i36:PySem.W.isFn K (.ref f36)=true)
  (l36:K.lookup f36=some ⟨oc36,od36,.func (PySem.W.fnOf "__init__" "Signs.__init__" (defArgs s__init__) (defBody s__init__) (defScope s__init__) .none kV36 dc36 pm36 an36 cd36 ct36),sl36⟩)
  (c36:PySem.W.codeIn K cd36 "Signs.__init__"=true)
  (k36:PySem.W.keepIn K (.ref f36)=true)
  (a37:PySem.W.findIn K (.ref C) "kinds"=some (some (.ref f37)))
  (i37:PySem.W.isFn K (.ref f37)=true)
  (l37:K.lookup f37=some ⟨oc37,od37,.func (PySem.W.fnOf "kinds" "Signs.kinds" (defArgs s_kinds) (defBody s_kinds) (defScope s_kinds) .none kV37 dc37 pm37 an37 cd37 ct37),sl37⟩)
  (c37:PySem.W.codeIn K cd37 "Signs.kinds"=true)
  (k37:PySem.W.keepIn K (.ref f37)=true)
  (a38:PySem.W.findIn K (.ref C) "ties"=some (some (.ref f38)))
  (i38:PySem.W.isFn K (.ref f38)=true)
  (l38:K.lookup f38=some ⟨oc38,od38,.func (PySem.W.fnOf "ties" "Signs.ties" (defArgs s_ties) (defBody s_ties) (defScope s_ties) .none kV38 dc38 pm38 an38 cd38 ct38),sl38⟩)
  (c38:PySem.W.codeIn K cd38 "Signs.ties"=true)
  (k38:PySem.W.keepIn K (.ref f38)=true)
  (a39:PySem.W.findIn K (.ref C) "functions"=some (some (.ref f39)))
  (i39:PySem.W.isFn K (.ref f39)=true)
  (l39:K.lookup f39=some ⟨oc39,od39,.func (PySem.W.fnOf "functions" "Signs.functions" (defArgs s_functions) (defBody s_functions) (defScope s_functions) .none kV39 dc39 pm39 an39 cd39 ct39),sl39⟩)
  (c39:PySem.W.codeIn K cd39 "Signs.functions"=true)
  (k39:PySem.W.keepIn K (.ref f39)=true)
  (a40:PySem.W.findIn K (.ref CB) "__init__"=some (some (.ref f40)))
  (i40:PySem.W.isFn K (.ref f40)=true)
  (l40:K.lookup f40=some ⟨oc40,od40,.func (PySem.W.fnOf "__init__" "SignTable.__init__" (defArgs s_SignTable__init__) (defBody s_SignTable__init__) (defScope s_SignTable__init__) .none kV40 dc40 pm40 an40 cd40 ct40),sl40⟩)
  (c40:PySem.W.codeIn K cd40 "SignTable.__init__"=true)
  (k40:PySem.W.keepIn K (.ref f40)=true)
  (pg:PySem.W.plainGet K C Str.empty=true)
  (hd:PySem.W.hasDictIn K C=true)
  (po:PySem.W.plainOver K C=true)
  (sa:PySem.W.findIn K (.ref C) "__setattr__"=some (some (.builtin "object.__setattr__")))
  (mk:PySem.W.makesIn K C=true)
  (kc:PySem.W.keepIn K (.ref C)=true)
  (n0:PySem.W.findIn K (.ref C) "kept_kinds"=some none)
  (n1:PySem.W.findIn K (.ref C) "kept_ties"=some none)
  (n2:PySem.W.findIn K (.ref C) "kept_functions"=some none)
  (pgB:PySem.W.plainGet K CB Str.empty=true)
  (hdB:PySem.W.hasDictIn K CB=true)
  (poB:PySem.W.plainOver K CB=true)
  (saB:PySem.W.findIn K (.ref CB) "__setattr__"=some (some (.builtin "object.__setattr__")))
  (mkB:PySem.W.makesIn K CB=true)
  (kcB:PySem.W.keepIn K (.ref CB)=true)
  (n0B:PySem.W.findIn K (.ref CB) "known_kinds"=some none)
  (n1B:PySem.W.findIn K (.ref CB) "tie_places"=some none)
  (n2B:PySem.W.findIn K (.ref CB) "function_places"=some none)
  (n3B:PySem.W.findIn K (.ref CB) "function_kinds"=some none)
  (z_len:PySem.W.nsIn K mainGlobals "len"=some none)
  (z_max:PySem.W.nsIn K mainGlobals "max"=some none)
  (z_abs:PySem.W.nsIn K mainGlobals "abs"=some none)
  (z_divmod:PySem.W.nsIn K mainGlobals "divmod"=some none)
  (z_list:PySem.W.nsIn K mainGlobals "list"=some none)
  (z_tuple:PySem.W.nsIn K mainGlobals "tuple"=some none)
  (z_range:PySem.W.nsIn K mainGlobals "range"=some none)
  (z_int:PySem.W.nsIn K mainGlobals "int"=some none)
  (z_str:PySem.W.nsIn K mainGlobals "str"=some none)
  (z_repr:PySem.W.nsIn K mainGlobals "repr"=some none)
  (z_isinstance:PySem.W.nsIn K mainGlobals "isinstance"=some none)
  (z_all:PySem.W.nsIn K mainGlobals "all"=some none)
  (z_set:PySem.W.nsIn K mainGlobals "set"=some none)
  (z_dict:PySem.W.nsIn K mainGlobals "dict"=some none)
  (z_zip:PySem.W.nsIn K mainGlobals "zip"=some none)
  (z_enumerate:PySem.W.nsIn K mainGlobals "enumerate"=some none)
  (gL:PySem.W.nsIn K mainGlobals "LETTERS"=some (some (.str (Str.ofString "abcdefghijklmnopqrstuvwxyz") tL)))
  (gI0:PySem.W.nsIn K mainGlobals "LONGEST_NAME"=some (some (.int 12 tI0)))
  (gI1:PySem.W.nsIn K mainGlobals "MOST_KINDS"=some (some (.int 4 tI1)))
  (gI2:PySem.W.nsIn K mainGlobals "MOST_SIGNS"=some (some (.int 8 tI2)))
  (gI3:PySem.W.nsIn K mainGlobals "MOST_PLACES"=some (some (.int 2 tI3)))
  (gI4:PySem.W.nsIn K mainGlobals "DEEPEST"=some (some (.int 64 tI4)))
  (gW:PySem.W.nsIn K mainGlobals "WORDS_OF_SAYINGS"=some (some (.ref wa)))
  (lW:K.lookup wa=some ⟨.type "tuple",wd,.seq #[.str (Str.ofString "all") tw0,.str (Str.ofString "some") tw1,.str (Str.ofString "not") tw2,.str (Str.ofString "and") tw3,.str (Str.ofString "or") tw4] wn,ws⟩)
  : ∃ fd:FuncData,(∀ (s:Shared) (v:Value),BindsTo s fd ⟨[v],[]⟩ [("_law_script",v)])∧∀ base:Heap,K.In base→base.Ns mainGlobals mg→FnOk l.prog w K mg base CX0 33 fa fd ["_law_script"] (spLaw K):=by
 have T:ClS K C:=⟨⟨pg,hd,po,sa⟩,n0,n1,n2⟩
 have TB:ClT K CB:=⟨⟨pgB,hdB,poB,saB⟩,n0B,n1B,n2B,n3B⟩
 have GD:∃ u,mg "DEEPEST"=some u∧RelV (.int 64) u:=⟨_,PySem.W.mg_of X G gI4,tI4,rfl⟩
 have Z:Bl mg:=⟨PySem.W.mg_none_of X G z_len,PySem.W.mg_none_of X G z_max,PySem.W.mg_none_of X G z_abs,PySem.W.mg_none_of X G z_divmod,PySem.W.mg_none_of X G z_list,PySem.W.mg_none_of X G z_tuple,PySem.W.mg_none_of X G z_range,PySem.W.mg_none_of X G z_int,PySem.W.mg_none_of X G z_str,PySem.W.mg_none_of X G z_repr,PySem.W.mg_none_of X G z_isinstance,PySem.W.mg_none_of X G z_all,PySem.W.mg_none_of X G z_set⟩
 have Gg:Gs K mg:=⟨⟨_,PySem.W.mg_of X G gL,tL,rfl⟩,⟨_,PySem.W.mg_of X G gI0,tI0,rfl⟩,⟨_,PySem.W.mg_of X G gI1,tI1,rfl⟩,⟨_,PySem.W.mg_of X G gI2,tI2,rfl⟩,⟨_,PySem.W.mg_of X G gI3,tI3,rfl⟩,wa,PySem.W.mg_of X G gW,fun H=>.inr ⟨_,_,_,lW,rfl,rfl,by show 5≤sizeLine; decide,.cons ⟨tw0,rfl⟩ (.cons ⟨tw1,rfl⟩ (.cons ⟨tw2,rfl⟩ (.cons ⟨tw3,rfl⟩ (.cons ⟨tw4,rfl⟩ (.nil)))))⟩⟩
 have F0:FunAt K mg "_law_cell" s_law_cell ["_law_script","_law_k"]:=funAt_mk X G a0 l0 c0 k0 fun _ _ _ _ _ _ us hl=>match us,hl with | [_,_],_=>rfl
 have F1:FunAt K mg "_law_pot" s_law_pot ["_law_cell_here"]:=funAt_mk X G a1 l1 c1 k1 fun _ _ _ _ _ _ us hl=>match us,hl with | [_],_=>rfl
 have F2:FunAt K mg "_law_draw" s_law_draw ["_law_pot_here","_law_many"]:=funAt_mk X G a2 l2 c2 k2 fun _ _ _ _ _ _ us hl=>match us,hl with | [_,_],_=>rfl
 have F3:FunAt K mg "_law_unlike" s_law_unlike ["_law_pot_here","_law_many","_law_menu"]:=funAt_mk X G a3 l3 c3 k3 fun _ _ _ _ _ _ us hl=>match us,hl with | [_,_,_],_=>rfl
 have F4:FunAt K mg "_law_book" s_law_book ["_law_pot_here","_law_most_kinds","_law_most_signs"]:=funAt_mk X G a4 l4 c4 k4 fun _ _ _ _ _ _ us hl=>match us,hl with | [_,_,_],_=>rfl
 have F5:FunAt K mg "_law_meant" s_law_meant ["_law_scope"]:=funAt_mk X G a5 l5 c5 k5 fun _ _ _ _ _ _ us hl=>match us,hl with | [_],_=>rfl
 have F6:FunAt K mg "_law_variable" s_law_variable ["_law_pot_here","_law_scope","_law_kind"]:=funAt_mk X G a6 l6 c6 k6 fun _ _ _ _ _ _ us hl=>match us,hl with | [_,_,_],_=>rfl
 have F7:FunAt K mg "_law_term" s_law_term ["_law_pot_here","_law_book_here","_law_scope","_law_kind","_law_deep"]:=funAt_mk X G a7 l7 c7 k7 fun _ _ _ _ _ _ us hl=>match us,hl with | [_,_,_,_,_],_=>rfl
 have F8:FunAt K mg "_law_atom" s_law_atom ["_law_pot_here","_law_book_here","_law_scope","_law_deep"]:=funAt_mk X G a8 l8 c8 k8 fun _ _ _ _ _ _ us hl=>match us,hl with | [_,_,_,_],_=>rfl
 have F9:FunAt K mg "_law_saying_in" s_law_saying_in ["_law_pot_here","_law_book_here","_law_scope","_law_deep"]:=funAt_mk X G a9 l9 c9 k9 fun _ _ _ _ _ _ us hl=>match us,hl with | [_,_,_,_],_=>rfl
 have F10:FunAt K mg "_law_saying" s_law_saying ["_law_pot_here","_law_book_here","_law_deep"]:=funAt_mk X G a10 l10 c10 k10 fun _ _ _ _ _ _ us hl=>match us,hl with | [_,_,_],_=>rfl
 have F11:FunAt K mg "_law_as" s_law_as ["_law_pot_here","_law_thing"]:=funAt_mk X G a11 l11 c11 k11 fun _ _ _ _ _ _ us hl=>match us,hl with | [_,_],_=>rfl
 have F12:FunAt K mg "_law_written" s_law_written ["_law_thing"]:=funAt_mk X G a12 l12 c12 k12 fun _ _ _ _ _ _ us hl=>match us,hl with | [_],_=>rfl
 have F13:FunAt K mg "_law_right" s_law_right ["_law_signs","_law_saying_here","_law_handed"]:=funAt_mk X G a13 l13 c13 k13 fun _ _ _ _ _ _ us hl=>match us,hl with | [_,_,_],_=>rfl
 have F14:FunAt K mg "is_list" s_is_list ["thing"]:=funAt_mk X G a14 l14 c14 k14 fun _ _ _ _ _ _ us hl=>match us,hl with | [_],_=>rfl
 have F15:FunAt K mg "is_name" s_is_name ["thing"]:=funAt_mk X G a15 l15 c15 k15 fun _ _ _ _ _ _ us hl=>match us,hl with | [_],_=>rfl
 have F16:FunAt K mg "check_apart" s_check_apart ["names"]:=funAt_mk X G a16 l16 c16 k16 fun _ _ _ _ _ _ us hl=>match us,hl with | [_],_=>rfl
 have F17:FunAt K mg "checked_kinds" s_checked_kinds ["kinds"]:=funAt_mk X G a17 l17 c17 k17 fun _ _ _ _ _ _ us hl=>match us,hl with | [_],_=>rfl
 have F18:FunAt K mg "checked_kind" s_checked_kind ["kinds","kind"]:=funAt_mk X G a18 l18 c18 k18 fun _ _ _ _ _ _ us hl=>match us,hl with | [_,_],_=>rfl
 have F19:FunAt K mg "checked_places" s_checked_places ["kinds","places"]:=funAt_mk X G a19 l19 c19 k19 fun _ _ _ _ _ _ us hl=>match us,hl with | [_,_],_=>rfl
 have F20:FunAt K mg "checked_sign_name" s_checked_sign_name ["name"]:=funAt_mk X G a20 l20 c20 k20 fun _ _ _ _ _ _ us hl=>match us,hl with | [_],_=>rfl
 have F21:FunAt K mg "checked_tie" s_checked_tie ["kinds","tie"]:=funAt_mk X G a21 l21 c21 k21 fun _ _ _ _ _ _ us hl=>match us,hl with | [_,_],_=>rfl
 have F22:FunAt K mg "checked_function" s_checked_function ["kinds","function"]:=funAt_mk X G a22 l22 c22 k22 fun _ _ _ _ _ _ us hl=>match us,hl with | [_,_],_=>rfl
 have F23:FunAt K mg "check_many" s_check_many ["things","many"]:=funAt_mk X G a23 l23 c23 k23 fun _ _ _ _ _ _ us hl=>match us,hl with | [_,_],_=>rfl
 have F24:FunAt K mg "word_and_things" s_word_and_things ["thing","room"]:=funAt_mk X G a24 l24 c24 k24 fun _ _ _ _ _ _ us hl=>match us,hl with | [_,_],_=>rfl
 have F25:FunAt K mg "checked_row" s_checked_row ["table","things","places","scope","room"]:=funAt_mk X G a25 l25 c25 k25 fun _ _ _ _ _ _ us hl=>match us,hl with | [_,_,_,_,_],_=>rfl
 have F26:FunAt K mg "checked_term" s_checked_term ["table","thing","scope","room"]:=funAt_mk X G a26 l26 c26 k26 fun _ _ _ _ _ _ us hl=>match us,hl with | [_,_,_,_],_=>rfl
 have F27:FunAt K mg "checked_equation" s_checked_equation ["table","things","scope","room"]:=funAt_mk X G a27 l27 c27 k27 fun _ _ _ _ _ _ us hl=>match us,hl with | [_,_,_,_],_=>rfl
 have F28:FunAt K mg "checked_binding" s_checked_binding ["table","word","things","scope","room"]:=funAt_mk X G a28 l28 c28 k28 fun _ _ _ _ _ _ us hl=>match us,hl with | [_,_,_,_,_],_=>rfl
 have F29:FunAt K mg "checked_saying" s_checked_saying ["table","thing","scope","room"]:=funAt_mk X G a29 l29 c29 k29 fun _ _ _ _ _ _ us hl=>match us,hl with | [_,_,_,_],_=>rfl
 have F30:FunAt K mg "looked_over" s_looked_over ["signs","thing"]:=funAt_mk X G a30 l30 c30 k30 fun _ _ _ _ _ _ us hl=>match us,hl with | [_,_],_=>rfl
 have F31:FunAt K mg "write_saying" s_write_saying ["signs","saying"]:=funAt_mk X G a31 l31 c31 k31 fun _ _ _ _ _ _ us hl=>match us,hl with | [_,_],_=>rfl
 have F32:FunAt K mg "written" s_written ["thing"]:=funAt_mk X G a32 l32 c32 k32 fun _ _ _ _ _ _ us hl=>match us,hl with | [_],_=>rfl
 have F33:FunAt K mg "read_saying" s_read_saying ["signs","text"]:=funAt_mk X G a33 l33 c33 k33 fun _ _ _ _ _ _ us hl=>match us,hl with | [_,_],_=>rfl
 have F34:FunAt K mg "bracketed" s_bracketed ["text"]:=funAt_mk X G a34 l34 c34 k34 fun _ _ _ _ _ _ us hl=>match us,hl with | [_],_=>rfl
 have F35:FunAt K mg "law" s_law ["_law_script"]:=funAt_mk X G a35 l35 c35 k35 fun _ _ _ _ _ _ us hl=>match us,hl with | [_],_=>rfl
 have F36:=fun_mk (st:=s__init__) l36 c36 k36
 have b36:=F36.binds (ps:=["self","kinds","ties","functions"]) fun _ _ _ _ _ _ us hl=>match us,hl with | [_,_,_,_],_=>rfl
 have F37:=fun_mk (st:=s_kinds) l37 c37 k37
 have b37:=F37.binds (ps:=["self"]) fun _ _ _ _ _ _ us hl=>match us,hl with | [_],_=>rfl
 have F38:=fun_mk (st:=s_ties) l38 c38 k38
 have b38:=F38.binds (ps:=["self"]) fun _ _ _ _ _ _ us hl=>match us,hl with | [_],_=>rfl
 have F39:=fun_mk (st:=s_functions) l39 c39 k39
 have b39:=F39.binds (ps:=["self"]) fun _ _ _ _ _ _ us hl=>match us,hl with | [_],_=>rfl
 have F40:=fun_mk (st:=s_SignTable__init__) l40 c40 k40
 have b40:=F40.binds (ps:=["self","signs"]) fun _ _ _ _ _ _ us hl=>match us,hl with | [_,_],_=>rfl
 have FL:=fun_mk (st:=s_law) l35 c35 k35
 have e:=hfa.symm.trans (PySem.W.mg_of X G a35)
 cases e
 refine⟨PySem.W.fnOf "law" "law" (defArgs s_law) (defBody s_law) (defScope s_law) .none kV35 dc35 pm35 an35 cd35 ct35,fun s v=>.of_eq rfl,fun base _ _=>?_⟩
 have dCell:=ok_cell (P:=l.prog) (w:=w) (base:=base) F0 Z
 have dPot:=ok_pot (P:=l.prog) (w:=w) (base:=base) F1 Z
 have dDraw:=ok_draw (P:=l.prog) (w:=w) (base:=base) F2 Z
 have dUnlike:=ok_unlike (P:=l.prog) (w:=w) (base:=base) F3 Z dDraw
 have dBook:=ok_book (P:=l.prog) (w:=w) (base:=base) F4 Z dDraw dUnlike
 have dIl:=ok_is_list (P:=l.prog) (w:=w) (base:=base) F14 Z
 have dIn:=ok_is_name (P:=l.prog) (w:=w) (base:=base) F15 Z Gg
 have dCa:=ok_apart (P:=l.prog) (w:=w) (base:=base) F16 Z
 have dKs:=ok_kinds (P:=l.prog) (w:=w) (base:=base) F17 Z Gg dIl dIn dCa
 have dK:=ok_kind (P:=l.prog) (w:=w) (base:=base) F18 Z dIn
 have dPl:=ok_places (P:=l.prog) (w:=w) (base:=base) F19 Z Gg dIl dK
 have dSn:=ok_sign_name (P:=l.prog) (w:=w) (base:=base) F20 Z Gg dIn
 have dTie:=ok_tie (P:=l.prog) (w:=w) (base:=base) F21 Z dIl dSn dPl
 have dFu:=ok_func (P:=l.prog) (w:=w) (base:=base) F22 Z dIl dSn dPl dK
 have dIni:=ok_init (P:=l.prog) (w:=w) (base:=base) F36 Z Gg T dIl dKs dTie dFu dCa
 have dTk:=ok_tellK (P:=l.prog) (w:=w) (base:=base) F37 Z T
 have dTt:=ok_tellT (P:=l.prog) (w:=w) (base:=base) F38 Z T
 have dTf:=ok_tellF (P:=l.prog) (w:=w) (base:=base) F39 Z T
 have dCm:=ok_check_many (P:=l.prog) (w:=w) (base:=base) F23 Z
 have dWt:=ok_word (P:=l.prog) (w:=w) (base:=base) F24 Z dIl
 have dTm:=ok_terms (P:=l.prog) (w:=w) (base:=base) F26 F25 Z TB (PySem.W.mg_none_of X G z_zip) dWt dCm
 have dSa:=ok_says (P:=l.prog) (w:=w) (base:=base) F29 F28 F27 Z TB (PySem.W.mg_none_of X G z_dict) dCm dWt dIn dTm 12
 have dTi:=ok_tabinit (P:=l.prog) (w:=w) (base:=base) F40 Z T TB ⟨a37,i37,k37⟩ dTk b37 ⟨a38,i38,k38⟩ dTt b38 ⟨a39,i39,k39⟩ dTf b39
 have dLo:=ok_look (P:=l.prog) (w:=w) (base:=base) F30 Z GD ⟨mkB,a40,i40,kcB⟩ dTi (PySem.W.mg_of X G aCB) b40 dSa
 have dWn:=ok_wr (P:=l.prog) (w:=w) (base:=base) F32 Z 12
 have dWs:=ok_write (P:=l.prog) (w:=w) (base:=base) F31 Z dLo dWn
 have dBr:=ok_br (P:=l.prog) (w:=w) (base:=base) F34 Z
 have dRs:=ok_read (P:=l.prog) (w:=w) (base:=base) F33 Z dLo dWn dBr
 have dLw:=ok_lw (P:=l.prog) (w:=w) (base:=base) F12 Z (PySem.W.mg_none_of X G z_enumerate) 12
 have dMe:=ok_meant (P:=l.prog) (w:=w) (base:=base) F5 Z
 have dVa:=ok_var (P:=l.prog) (w:=w) (base:=base) F6 Z dDraw dMe
 have dTr:=ok_tmD (P:=l.prog) (w:=w) (base:=base) F7 Z dDraw dVa 2
 have dAt:=ok_atom (P:=l.prog) (w:=w) (base:=base) F8 Z dDraw dTr
 have dSi:=ok_sin (P:=l.prog) (w:=w) (base:=base) F9 Z dDraw dAt 4
 have dSy:=ok_saying (P:=l.prog) (w:=w) (base:=base) F10 Z dSi
 have dAs:=ok_as (P:=l.prog) (w:=w) (base:=base) F11 Z dDraw 7
 have dRight:=ok_right (P:=l.prog) (w:=w) (base:=base) F13 Z dWs dRs dLw
 exact ok_law FL Z dCell dPot dBook dSy dAs dRight ⟨mk,a36,i36,kc⟩ dIni (PySem.W.mg_of X G aC) b36
theorem walk {l:PySem.W.OpenLaw} {q:Program} {loose:List Str} {XP:(Str→Option Value)→Heap→Prop} {YP:World→Heap→Prop} {d:DefRec} {K:Params→PySem.W.Frag} (hn:l.most=some 63) (hdf:d.params.defaults=[]) (hq:PyProof.Rows.importsNone q=true)
  (hY:∀ (w:World) (h:Heap),YP w h→(K w.params).In h)
  (F:∀ (w:World) (mg:Str→Option Value) (fa:Addr) (h:Heap),(K w.params).In h→h.Ns mainGlobals mg→mg d.name=some (.ref fa)→
   ∃ fd:FuncData,(∀ (s:Shared) (u:Value),BindsTo s fd ⟨[u],[]⟩ [("_law_script",u)])∧∀ base:Heap,(K w.params).In base→base.Ns mainGlobals mg→FnOk l.prog w (K w.params) mg base CX0 33 fa fd ["_law_script"] (spLaw (K w.params))) :
  PySem.W.WalkO q loose XP YP l.row.toRowW d [] (fun f vs=>PySem.call f vs):=
 L2.walk_of (n:=63) (k:=33) (x:="_law_script") (CX:=fun _=>CX0) (sp:=fun w=>spLaw (K w.params)) hn (by decide) hdf ⟨rfl,rfl,by decide,by decide⟩ hq hY F (fun _ _ a ns hl _ hS=>⟨a,ns,rfl,hS,hl,fun _=>rfl⟩) fun _ _ _ _ _ z=>z
end FewE
open PySem PySem.W PyProof.Rows
set_option maxRecDepth 100000 in
set_option maxHeartbeats 0 in
theorem PySem.Challenge.cw_fewthings_k14_sayings_written_back_holds : PySem.Challenge.rw_fewthings_k14_sayings_written_back.Holds := by
 w_on; o_law; k_head; (case hw=>w_witness2)
 k_fill
 refine FewE.walk (l:=PySem.Challenge.rw_fewthings_k14_sayings_written_back) rfl rfl (by first | rfl | decide +kernel) (fun w h Y=>PySem.W.kIn_of Y) ?F
 case F=>
  intro w mg fa h KX G hmg
  refine' FewE.all_mk KX G hmg ?a0 ?l0 ?c0 ?k0 ?a1 ?l1 ?c1 ?k1 ?a2 ?l2 ?c2 ?k2 ?a3 ?l3 ?c3 ?k3 ?a4 ?l4 ?c4 ?k4 ?a5 ?l5 ?c5 ?k5 ?a6 ?l6 ?c6 ?k6 ?a7 ?l7 ?c7 ?k7 ?a8 ?l8 ?c8 ?k8 ?a9 ?l9 ?c9 ?k9 ?a10 ?l10 ?c10 ?k10 ?a11 ?l11 ?c11 ?k11 ?a12 ?l12 ?c12 ?k12 ?a13 ?l13 ?c13 ?k13 ?a14 ?l14 ?c14 ?k14 ?a15 ?l15 ?c15 ?k15 ?a16 ?l16 ?c16 ?k16 ?a17 ?l17 ?c17 ?k17 ?a18 ?l18 ?c18 ?k18 ?a19 ?l19 ?c19 ?k19 ?a20 ?l20 ?c20 ?k20 ?a21 ?l21 ?c21 ?k21 ?a22 ?l22 ?c22 ?k22 ?a23 ?l23 ?c23 ?k23 ?a24 ?l24 ?c24 ?k24 ?a25 ?l25 ?c25 ?k25 ?a26 ?l26 ?c26 ?k26 ?a27 ?l27 ?c27 ?k27 ?a28 ?l28 ?c28 ?k28 ?a29 ?l29 ?c29 ?k29 ?a30 ?l30 ?c30 ?k30 ?a31 ?l31 ?c31 ?k31 ?a32 ?l32 ?c32 ?k32 ?a33 ?l33 ?c33 ?k33 ?a34 ?l34 ?c34 ?k34 ?a35 ?l35 ?c35 ?k35 ?aC ?aCB ?a36 ?i36 ?l36 ?c36 ?k36 ?a37 ?i37 ?l37 ?c37 ?k37 ?a38 ?i38 ?l38 ?c38 ?k38 ?a39 ?i39 ?l39 ?c39 ?k39 ?a40 ?i40 ?l40 ?c40 ?k40 ?pg ?hd ?po ?sa ?mk ?kc ?n0 ?n1 ?n2 ?pgB ?hdB ?poB ?saB ?mkB ?kcB ?n0B ?n1B ?n2B ?n3B ?z_len ?z_max ?z_abs ?z_divmod ?z_list ?z_tuple ?z_range ?z_int ?z_str ?z_repr ?z_isinstance ?z_all ?z_set ?z_dict ?z_zip ?z_enumerate ?gL ?gI0 ?gI1 ?gI2 ?gI3 ?gI4 ?gW ?lW
  (case a0=>k_is)
  (case l0=>k_is)
  (case c0=>k_is)
  (case k0=>k_is)
  (case a1=>k_is)
  (case l1=>k_is)
  (case c1=>k_is)
  (case k1=>k_is)
  (case a2=>k_is)
  (case l2=>k_is)
  (case c2=>k_is)
  (case k2=>k_is)
  (case a3=>k_is)
  (case l3=>k_is)
  (case c3=>k_is)
  (case k3=>k_is)
  (case a4=>k_is)
  (case l4=>k_is)
  (case c4=>k_is)
  (case k4=>k_is)
  (case a5=>k_is)
  (case l5=>k_is)
  (case c5=>k_is)
  (case k5=>k_is)
  (case a6=>k_is)
  (case l6=>k_is)
  (case c6=>k_is)
  (case k6=>k_is)
  (case a7=>k_is)
  (case l7=>k_is)
  (case c7=>k_is)
  (case k7=>k_is)
  (case a8=>k_is)
  (case l8=>k_is)
  (case c8=>k_is)
  (case k8=>k_is)
  (case a9=>k_is)
  (case l9=>k_is)
  (case c9=>k_is)
  (case k9=>k_is)
  (case a10=>k_is)
  (case l10=>k_is)
  (case c10=>k_is)
  (case k10=>k_is)
  (case a11=>k_is)
  (case l11=>k_is)
  (case c11=>k_is)
  (case k11=>k_is)
  (case a12=>k_is)
  (case l12=>k_is)
  (case c12=>k_is)
  (case k12=>k_is)
  (case a13=>k_is)
  (case l13=>k_is)
  (case c13=>k_is)
  (case k13=>k_is)
  (case a14=>k_is)
  (case l14=>k_is)
  (case c14=>k_is)
  (case k14=>k_is)
  (case a15=>k_is)
  (case l15=>k_is)
  (case c15=>k_is)
  (case k15=>k_is)
  (case a16=>k_is)
  (case l16=>k_is)
  (case c16=>k_is)
  (case k16=>k_is)
  (case a17=>k_is)
  (case l17=>k_is)
  (case c17=>k_is)
  (case k17=>k_is)
  (case a18=>k_is)
  (case l18=>k_is)
  (case c18=>k_is)
  (case k18=>k_is)
  (case a19=>k_is)
  (case l19=>k_is)
  (case c19=>k_is)
  (case k19=>k_is)
  (case a20=>k_is)
  (case l20=>k_is)
  (case c20=>k_is)
  (case k20=>k_is)
  (case a21=>k_is)
  (case l21=>k_is)
  (case c21=>k_is)
  (case k21=>k_is)
  (case a22=>k_is)
  (case l22=>k_is)
  (case c22=>k_is)
  (case k22=>k_is)
  (case a23=>k_is)
  (case l23=>k_is)
  (case c23=>k_is)
  (case k23=>k_is)
  (case a24=>k_is)
  (case l24=>k_is)
  (case c24=>k_is)
  (case k24=>k_is)
  (case a25=>k_is)
  (case l25=>k_is)
  (case c25=>k_is)
  (case k25=>k_is)
  (case a26=>k_is)
  (case l26=>k_is)
  (case c26=>k_is)
  (case k26=>k_is)
  (case a27=>k_is)
  (case l27=>k_is)
  (case c27=>k_is)
  (case k27=>k_is)
  (case a28=>k_is)
  (case l28=>k_is)
  (case c28=>k_is)
  (case k28=>k_is)
  (case a29=>k_is)
  (case l29=>k_is)
  (case c29=>k_is)
  (case k29=>k_is)
  (case a30=>k_is)
  (case l30=>k_is)
  (case c30=>k_is)
  (case k30=>k_is)
  (case a31=>k_is)
  (case l31=>k_is)
  (case c31=>k_is)
  (case k31=>k_is)
  (case a32=>k_is)
  (case l32=>k_is)
  (case c32=>k_is)
  (case k32=>k_is)
  (case a33=>k_is)
  (case l33=>k_is)
  (case c33=>k_is)
  (case k33=>k_is)
  (case a34=>k_is)
  (case l34=>k_is)
  (case c34=>k_is)
  (case k34=>k_is)
  (case a35=>k_is)
  (case l35=>k_is)
  (case c35=>k_is)
  (case k35=>k_is)
  (case aC=>k_is)
  (case aCB=>k_is)
  (case a36=>k_is)
  (case i36=>k_is)
  (case l36=>k_is)
  (case c36=>k_is)
  (case k36=>k_is)
  (case a37=>k_is)
  (case i37=>k_is)
  (case l37=>k_is)
  (case c37=>k_is)
  (case k37=>k_is)
  (case a38=>k_is)
  (case i38=>k_is)
  (case l38=>k_is)
  (case c38=>k_is)
  (case k38=>k_is)
  (case a39=>k_is)
  (case i39=>k_is)
  (case l39=>k_is)
  (case c39=>k_is)
  (case k39=>k_is)
  (case a40=>k_is)
  (case i40=>k_is)
  (case l40=>k_is)
  (case c40=>k_is)
  (case k40=>k_is)
  (case pg=>k_is)
  (case hd=>k_is)
  (case po=>k_is)
  (case sa=>k_is)
  (case mk=>k_is)
  (case kc=>k_is)
  (case n0=>k_is)
  (case n1=>k_is)
  (case n2=>k_is)
  (case pgB=>k_is)
  (case hdB=>k_is)
  (case poB=>k_is)
  (case saB=>k_is)
  (case mkB=>k_is)
  (case kcB=>k_is)
  (case n0B=>k_is)
  (case n1B=>k_is)
  (case n2B=>k_is)
  (case n3B=>k_is)
  (case z_len=>k_is)
  (case z_max=>k_is)
  (case z_abs=>k_is)
  (case z_divmod=>k_is)
  (case z_list=>k_is)
  (case z_tuple=>k_is)
  (case z_range=>k_is)
  (case z_int=>k_is)
  (case z_str=>k_is)
  (case z_repr=>k_is)
  (case z_isinstance=>k_is)
  (case z_all=>k_is)
  (case z_set=>k_is)
  (case z_dict=>k_is)
  (case z_zip=>k_is)
  (case z_enumerate=>k_is)
  (case gL=>k_is)
  (case gI0=>k_is)
  (case gI1=>k_is)
  (case gI2=>k_is)
  (case gI3=>k_is)
  (case gI4=>k_is)
  (case gW=>k_is)
  (case lW=>k_is)
