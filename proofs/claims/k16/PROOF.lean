import PyProof.Rows.All
import Wide.All
import OpenK.AllK
import Wide.FinOn
import Lean
import PyProof.EqAt
import PyProof.EqKinds
import PyProof.TupleCall
import PyProof.ExcBaseAll.ValueError
import PyProof.RulesAs
import PyProof.RulesDel
import PyProof.ExcArgsOwn
import PyProof.Draws
import PyProof.EnumFor
import PyProof.EnumMake
import KE.KDictList
import PyProof.ZipIter
import PyProof.TupleIter
import KE.KItemsList
import PyProof.AttrMissHeap
import KE.KDictOf
import PyProof.Rows.ZipGen
import PyProof.Rows.BootFacts
import PyProof.NeKinds
import PyProof.ListRange
import PyProof.RangeFor
import PyProof.DictCompW
import PyProof.CollectIter
import PyProof.WalksMore
import PyProof.DictUpdate
import PyProof.StrBlockH
import PyProof.StrLawsTight
import PyProof.StrLawsChain
import PyProof.StrCalls6
import PyProof.StrLawsReplace
import PyProof.ListIndex
import PyProof.Rows.DictUnroll
import PyProof.Rows.StrWeight2
import PyProof.Rows.Tup
import PyProof.Rows.CallKwBuiltin
import PyProof.Rows.CallKw2
import PyProof.ReprLen
import KE.RegKIsAll
import PySem.Challenge.RW_fewthings_k16_texts_written_back
namespace PySem.W.Fast
def tw6857404360566739083:=0
def tw5333715280874013128:=0
def tw14079120399331224451:=0
def tw3843801433178309901:=0
def tw3865878966600191907:=0
def tw4772653888811691828:=0
def tw12857399855206495741:=0
def tw18044683357769709279:=0
def tw17708641016125969151:=0
def tw15185124144392484642:=0
def tw10131670782160531540:=0
def tw5433813471139305342:=0
def tw15338200065608721213:=0
def tw11156568646229650177:=0
def tw5470270528532624150:=0
def tw1929553699437929416:=0
def tw16451233711297998548:=0
def tw14639810325554115605:=0
def tw16825913848945711621:=0
def tw541845901141141723:=0
def tw14005095080689055752:=0
def tw7857786836684436436:=0
def tw9342923750812374890:=0
def tw1777530628582017646:=0
def tw8399283972252422516:=0
def tw13791266259314847315:=0
def tw8027325130466748386:=0
def tw15846419043658418097:=0
def tw7737698932230708984:=0
def tw876463119890450011:=0
def tw1179229409497643265:=0
def tw14025743736758549127:=0
def tw6903804829440803234:=0
def tw1505315272185237434:=0
def tw8013264692919322198:=0
def tw6575662822781329998:=0
def tw2722287693187194466:=0
def tw17158694087881586534:=0
def tw9873400847015396992:=0
def tw12970106093343865949:=0
def tw7370073341874788105:=0
def tw6333536547432750672:=0
def tw5910615652709033910:=0
def tw7716243313543963217:=0
def tw14104025069784399751:=0
def tw1883783502531723283:=0
def tw4281670829577674746:=0
def tw14993294611693709325:=0
def tw15540974829714215030:=0
def tw17086386311550157064:=0
def tw3920338975071251465:=0
def tw5983612258911221864:=0
def tw7992471135321743095:=0
def tw3837684674775703252:=0
def tw18380472411941777425:=0
def tw18012065015764978713:=0
def tw10888028143591463707:=0
def tw7880007336129635223:=0
def tw9510624031519089842:=0
def tw7102375767192637367:=0
def tw18111884588436627448:=0
def tw8478486882316452842:=0
def tw11271247665519106931:=0
def tw1113323315135814405:=0
def tw7698784818088237783:=0
def tw4509493313807611703:=0
def tw549197802967846814:=0
def tw3672751461788629738:=0
def tw11913225890742947083:=0
def tw2887485871629886714:=0
def tw12354939156479415927:=0
def tw4011886918828463413:=0
def tw13346628497889667832:=0
def tw17959785964297308419:=0
def tw6958302303054980507:=0
def tw5226006768598109772:=0
def tw15289712184168680139:=0
def tw2224826734490888559:=0
def tw17403247510383773649:=0
def tw14425929562117658647:=0
def tw1921736051937948922:=0
def tw10733367240970835352:=0
def tw5678557724463200828:=0
def tw496334607932509483:=0
def tw9574575754865034092:=0
def tw16158673509739575043:=0
def tw17297223574923739633:=0
def tw8280236531009697489:=0
def tw13515852187772884213:=0
def tw12923426824585936718:=0
def tw88142216336531417:=0
def tw8372567973492580982:=0
def tw8910390292288669997:=0
def tw8869479920800695330:=0
def tw18203703446585075280:=0
def tw12996815022582048256:=0
def tw11954786816225218907:=0
def tw9909972452409261297:=0
def tw15218487030100150550:=0
def tw10489444403197429404:=0
def tw14669012322645492686:=0
def tw10554276073387516173:=0
def tw12136604314295510379:=0
def tw15320264490712804139:=0
def tw4164244745766270443:=0
def tw10789188514500303141:=0
def tw15109163312147160296:=0
def tw1236714757160086261:=0
def tw10705388166028857287:=0
def tw6163506588844458279:=0
def tw1485493889164450895:=0
def tw14598152034168131564:=0
def tw10730196993316183548:=0
def tw7959518784659453434:=0
def tw4773983925773415016:=0
def tw921781254076659074:=0
def tw15506714280896221420:=0
def tw4250504483412340166:=0
def tw18130561309236827120:=0
def tw4408955808550348868:=0
end PySem.W.Fast
set_option Elab.async false
set_option linter.all false
set_option maxRecDepth 100000
namespace L2
open PySem PySem.Spec PyProof.Rows
abbrev Key:=Sum Int Str
def iU:Key→Value→Bool
 | .inl k,v=>Value.isInt k v
 | .inr x,v=>Value.isStrOf x v
def AL(w:World):Key→Int
 | .inl k=>hashInt k
 | .inr x=>hashStr w x
theorem aR:∀ {k:Key} {v:Value},iU k v=true→(∃ i t,k=Sum.inl i∧v=Value.int i t)∨(∃ x t,k=Sum.inr x∧v=Value.str x t)
 | .inl i,v,h=>by
  obtain⟨t,e⟩:=Value.isInt_shape (k:=i) (v:=v) h
  exact .inl ⟨i,t,rfl,e⟩
 | .inr x,v,h=>by
  obtain⟨t,e⟩:=Value.isStrOf_shape (x:=x) (v:=v) h
  exact .inr ⟨x,t,rfl,e⟩
theorem qC(i:Int)(t:Tok):iU (.inl i) (.int i t)=true:=by simp [iU,Value.isInt]
theorem qB(x:Str)(t:Tok):iU (.inr x) (.str x t)=true:=by simp [iU,Value.isStrOf]
theorem yB(a b:Int):decide ((Sum.inl a:Key)=Sum.inl b)=(a==b):=by
 by_cases e:a=b
 ·subst e; simp
 ·have h:¬ (Sum.inl a:Key)=Sum.inl b:=fun q=>e (Sum.inl.inj q)
  rw [decide_eq_false h]
  exact(beq_eq_false_iff_ne.mpr e).symm
theorem yx(a b:Str):decide ((Sum.inr a:Key)=Sum.inr b)=decide (a=b):=by
 by_cases e:a=b
 ·subst e; simp
 ·have h:¬ (Sum.inr a:Key)=Sum.inr b:=fun q=>e (Sum.inr.inj q)
  rw [decide_eq_false h,decide_eq_false e]
theorem yA(a:Int)(b:Str):decide ((Sum.inl a:Key)=Sum.inr b)=false:=decide_eq_false (fun q=>nomatch q)
theorem yz(a:Str)(b:Int):decide ((Sum.inr a:Key)=Sum.inl b)=false:=decide_eq_false (fun q=>nomatch q)
def aI(prog:Program)(w:World):PySem.KeyKind prog w Key where
 is:=iU
 hash:=AL w
 inj:=fun v a b ha hb=>by
  rcases aR ha with ⟨i,t,rfl,rfl⟩ | ⟨x,t,rfl,rfl⟩
  ·rcases aR hb with ⟨j,u,rfl,e⟩ | ⟨y,u,rfl,e⟩
   ·injection e with e1 _; rw [e1]
   ·exact nomatch e
  ·rcases aR hb with ⟨j,u,rfl,e⟩ | ⟨y,u,rfl,e⟩
   ·exact nomatch e
   ·injection e with e1 _; rw [e1]
 byValue:=fun k v h=>by
  rcases aR h with ⟨i,t,rfl,rfl⟩ | ⟨x,t,rfl,rfl⟩ <;> rfl
 pyHash:=fun hv h=>by
  rcases aR hv with ⟨i,t,rfl,rfl⟩ | ⟨x,t,rfl,rfl⟩
  ·exact wpAny_pyHash_int h
  ·exact wpAny_pyHash_str h
 eqBool:=fun hu hv h=>by
  rcases aR hu with ⟨i,t,rfl,rfl⟩ | ⟨x,t,rfl,rfl⟩
  ·rcases aR hv with ⟨j,u,rfl,rfl⟩ | ⟨y,u,rfl,rfl⟩
   ·rw [yB] at h; exact wpAny_eqBool_int h
   ·rw [yA] at h; exact SeqAt.EqAt.int_str i t y u _ _ _ _ h
  ·rcases aR hv with ⟨j,u,rfl,rfl⟩ | ⟨y,u,rfl,rfl⟩
   ·rw [yz] at h; exact SeqAt.EqAt.str_int x t j u _ _ _ _ h
   ·rw [yx] at h; exact wpAny_eqBool_str h
 «strs»:=fun k x t v h=>by
  rcases aR h with ⟨i,u,rfl,e⟩ | ⟨y,u,rfl,e⟩
  ·exact nomatch e
  ·injection e with e1 _
   subst e1
   cases v <;> rfl
theorem mj(prog:Program)(w:World)(i:Int)(t:Tok):(aI prog w).is (.inl i) (.int i t)=true:=qC i t
theorem mi(prog:Program)(w:World)(x:Str)(t:Tok):(aI prog w).is (.inr x) (.str x t)=true:=qB x t
inductive V where
 | non | bl (b:Bool) | int (i:Int) | str (x:Str) | byt (b:Array UInt8) | flt (b:UInt64) | ref (a:Addr) | ty (n:String)
 deriving DecidableEq
def az:V→Value→Prop
 | .non,u=>u=Value.none
 | .bl b,u=>u=Value.bool b
 | .int i,u=>∃ t,u=Value.int i t
 | .str x,u=>∃ t,u=Value.str x t
 | .byt b,u=>∃ t,u=Value.bytes b t
 | .flt b,u=>∃ t,u=Value.float b t
 | .ref a,u=>u=Value.ref a
 | .ty n,u=>u=Value.type n
abbrev aw:List V→List Value→Prop:=Paired az
theorem aw.length{xs:List V}{us:List Value}(r:aw xs us):xs.length=us.length:=Paired.length r
theorem aw.get:∀ {xs:List V} {us:List Value} {i:Nat} {x:V},aw xs us→xs[i]? = some x→∃ u,us[i]? = some u∧az x u
 | _,_,_,_,.nil,e=>by simp at e
 | _,_,0,_,.cons r _,e=>by simp at e; subst e; exact⟨_,rfl,r⟩
 | _,_,i+1,x,.cons _ t,e=>by
  obtain⟨u,h1,h2⟩:=aw.get (i:=i) (x:=x) t (by simpa using e)
  exact⟨u,by simpa using h1,h2⟩
theorem aw.set{x:V}{u:Value}(r:az x u):∀ {xs:List V} {us:List Value} (i:Nat),aw xs us→aw (xs.set i x) (us.set i u)
 | _,_,_,.nil=>.nil
 | _,_,0,.cons _ t=>.cons r t
 | _,_,i+1,.cons q t=>.cons q (aw.set r i t)
theorem aw.append:∀ {xs ys:List V} {us ws:List Value},aw xs us→aw ys ws→aw (xs++ys) (us++ws)
 | _,_,_,_,.nil,s=>s
 | _,_,_,_,.cons r t,s=>.cons r (aw.append t s)
theorem aw.take:∀ {xs:List V} {us:List Value} (n:Nat),aw xs us→aw (xs.take n) (us.take n)
 | _,_,0,_=>.nil
 | _,_,_+1,.nil=>.nil
 | _,_,n+1,.cons r t=>.cons r (aw.take n t)
theorem aw.drop:∀ {xs:List V} {us:List Value} (n:Nat),aw xs us→aw (xs.drop n) (us.drop n)
 | _,_,0,r=>r
 | _,_,_+1,.nil=>.nil
 | _,_,n+1,.cons _ t=>aw.drop n t
def eZ:Option V→Option Value→Prop
 | some v,some u=>az v u
 | none,none=>True
 | _,_=>False
def KV{κ:Type}:List (κ×V)→List (κ×Value)→Prop:=Paired fun (p:κ×V) (q:κ×Value)=>p.1=q.1∧az p.2 q.2
def kV:Key→V
 | .inl i=>.int i
 | .inr x=>.str x
inductive HO where
 | lst (xs:List V)
 | tup (xs:List V)
 | dK (kvs:List (Key×V)) | dT (kvs:List (List Key×V))
 | set (S:Int→Bool) (n:Nat)
 | ins (C dx:Addr) (fs:List (Str×V))
 | own (x:Addr)
 | xd (fs:List (Str×V))
 | met (f x:Addr)
 | rng (lo hi:Int)
 | frz (o:Obj) (u:HO)
 | tbl (ps:Array Value)
 | ext (φ:Heap→Prop)
abbrev Hp:=Addr→Option HO
def upd(H:Hp)(a:Addr)(o:HO):Hp:=fun b=>if b=a then some o else H b
theorem aa{H:Hp}{a:Addr}{o:HO}:upd H a o a=some o:=by unfold upd; rw [if_pos rfl]
theorem ad{H:Hp}{a b:Addr}{o:HO}(h:b≠a):upd H a o b=H b:=by unfold upd; rw [if_neg h]
theorem zG{H:Hp}{a b:Addr}{o u:HO}(h:H a=some o)(h':H b=some u)(d:o≠u):a≠b:=by
 intro e; subst e; rw [h] at h'; exact d (Option.some.inj h')
theorem ae{H:Hp}{a b:Addr}{o:HO}(h:H a=some o)(h':H b=none):a≠b:=by
 intro e; subst e; rw [h] at h'; cases h'
section
variable(P:Program)(w:World)
def aF(H:Hp)(h:Heap)(a:Addr):HO→Prop
 | .lst xs=>xs.length≤sizeLine∧∃ (its:List Value) (n:Nat),aw xs its∧h.get? a=some {cls:=.type "list",data:=.seq its.toArray n}
 | .tup xs=>xs.length≤sizeLine∧∃ its:List Value,aw xs its∧IsTup h a its.toArray
 | .dK kvs=>kvs.length≤sizeLine∧(a==sysModules)=false∧∃ vs,KV kvs vs∧h.DictOf (aI P w) a vs
 | .dT kvs=>kvs.length≤sizeLine∧(a==sysModules)=false∧∃ xs:List (List Key×Addr×Value),
   Paired (fun (p:List Key×V) (q:List Key×Addr×Value)=>p.1=q.1∧H q.2.1=some (.tup (p.1.map kV))∧az p.2 q.2.2) kvs xs∧
   ∃ o es ep,h.get? a=some o∧o.ExactDict∧o.data=.dict es ep∧es.toList=xs.map (entryOfKey (tupleKind (aI P w)))∧(xs.map (·.1)).Nodup
 | .set S n=>h.SetOf (intKind P w) a S n
 | .ins C dx fs=>H dx=some (.own a)∧fs.length≤1000∧dx≠a∧h.get? a=some (PySem.W.instObj C dx)∧
   ∃ mA,h.Ns1 dx mA∧(∀ f,eZ (fs.lookup f) (mA f))∧PySem.Within mA (fs.map (·.1))
 | .own _=>∃ o,h.get? a=some o
 | .xd fs=>∃ mA,h.Ns1 a mA∧∀ f,eZ (fs.lookup f) (mA f)
 | .rng lo hi=>∃ t u v,h.get? a=some {cls:=.type "range",data:=.fields #[.int lo t,.int hi u,.int 1 v]}
 | .frz o u=>h.get? a=some o∧aF H h a u
 | .tbl ps=>h.get? a=some {cls:=.none,data:=.fields ps}
 | .met f x=>h.get? a=some (PySem.W.methodObj (.ref f) (.ref x))
 | .ext φ=>φ h∧(∃ o,h.get? a=some o)∧∀ h1 h2:Heap,φ h1→(∀ o,h1.get? a=some o→h2.get? a=some o)→φ h2
def HOk(H:Hp)(h:Heap):Prop:=∀ a o,H a=some o→aF P w H h a o
end
section
variable{P:Program}{w:World}{H H':Hp}{h h':Heap}{a:Addr}{o:HO}
theorem aF.lt(x:aF P w H h a o):a<h.objs.size:=by
 cases o with
 | lst xs=>obtain⟨_,_,_,_,e⟩:=x; exact Heap.lt_size e
 | tup xs=>obtain⟨_,_,_,p⟩:=x; exact p.lt
 | dK kvs=>obtain⟨_,_,_,_,o,_,_,e,_⟩:=x; exact Heap.lt_size e
 | dT kvs=>obtain⟨_,_,_,_,o,_,_,e,_⟩:=x; exact Heap.lt_size e
 | set S n=>obtain⟨o,_,_,_,e,_⟩:=x; exact Heap.lt_size e
 | ins C dx fs=>obtain⟨_,_,_,e,_⟩:=x; exact Heap.lt_size e
 | own y=>obtain⟨_,e⟩:=x; exact Heap.lt_size e
 | xd fs=>obtain⟨_,⟨_,_,_,e,_⟩,_⟩:=x; exact Heap.lt_size e
 | rng lo hi=>obtain⟨_,_,_,e⟩:=x; exact Heap.lt_size e
 | frz ob u=>obtain⟨e,_⟩:=x; exact Heap.lt_size e
 | tbl ps=>exact Heap.lt_size (show h.get? a=some _ from x)
 | met f y=>exact Heap.lt_size (show h.get? a=some _ from x)
 | ext φ=>obtain⟨_,⟨_,e⟩,_⟩:=x; exact Heap.lt_size e
theorem Paired.mapP{α β:Type}{F G:α→β→Prop}:∀ {l₁:List α} {l₂:List β},Paired F l₁ l₂→(∀ a b,F a b→G a b)→Paired G l₁ l₂
 | _,_,.nil,_=>.nil
 | _,_,.cons r t,f=>.cons (f _ _ r) (Paired.mapP t f)
theorem aF.stay(x:aF P w H h a o)(k:∀ b u,(b=a∨H b=some (.own a))→h.get? b=some u→h'.get? b=some u)
  (ho:∀ b,H b=some (.own a)→H' b=some (.own a)) (ht:∀ b xs,H b=some (.tup xs)→H' b=some (.tup xs)):aF P w H' h' a o:=by
 induction o with
 | lst xs=>obtain⟨z,its,n,r,e⟩:=x; exact⟨z,its,n,r,k _ _ (.inl rfl) e⟩
 | tup xs=>obtain⟨z,its,r,ob,e,c⟩:=x; exact⟨z,its,r,ob,k _ _ (.inl rfl) e,c⟩
 | dK kvs=>obtain⟨z,y,vs,r,ob,es,ep,e,c⟩:=x; exact⟨z,y,vs,r,ob,es,ep,k _ _ (.inl rfl) e,c⟩
 | dT kvs=>
  obtain⟨z,y,xs,r,ob,es,ep,e,c⟩:=x
  exact⟨z,y,xs,Paired.mapP r fun p q z=>⟨z.1,ht _ _ z.2.1,z.2.2⟩,ob,es,ep,k _ _ (.inl rfl) e,c⟩
 | set S n=>obtain⟨ob,es,ep,t,e,c⟩:=x; exact⟨ob,es,ep,t,k _ _ (.inl rfl) e,c⟩
 | ins C dx fs=>
  obtain⟨d,z,ne,e,mA,⟨od,es,ep,e2,c⟩,r⟩:=x
  exact⟨ho _ d,z,ne,k _ _ (.inl rfl) e,mA,⟨od,es,ep,k _ _ (.inr d) e2,c⟩,r⟩
 | own y=>obtain⟨ob,e⟩:=x; exact⟨ob,k _ _ (.inl rfl) e⟩
 | xd fs=>obtain⟨mA,⟨od,es,ep,e,c⟩,r⟩:=x; exact⟨mA,⟨od,es,ep,k _ _ (.inl rfl) e,c⟩,r⟩
 | rng lo hi=>obtain⟨t,u,v,e⟩:=x; exact⟨t,u,v,k _ _ (.inl rfl) e⟩
 | frz ob u ih=>obtain⟨e,q⟩:=x; exact⟨k _ _ (.inl rfl) e,ih q⟩
 | tbl ps=>
  have e:h.get? a=some {cls:=.none,data:=.fields ps}:=x
  show h'.get? a=some {cls:=.none,data:=.fields ps}
  exact k a _ (.inl rfl) e
 | met f y=>
  have e:h.get? a=some (PySem.W.methodObj (.ref f) (.ref y)):=x
  show h'.get? a=some (PySem.W.methodObj (.ref f) (.ref y))
  exact k a _ (.inl rfl) e
 | ext φ=>obtain⟨p,⟨o,e⟩,st⟩:=x; exact⟨st _ _ p fun o q=>k _ _ (.inl rfl) q,⟨o,k _ _ (.inl rfl) e⟩,st⟩
theorem HOk.lt(x:HOk P w H h)(e:H a=some o):a<h.objs.size:=(x a o e).lt
theorem HOk.fresh(x:HOk P w H h)(e:h.objs.size≤a):H a=none:=by
 cases q:H a with
 | none=>rfl
 | some u=>exact absurd (Nat.lt_of_lt_of_le (x.lt q) e) (Nat.lt_irrefl _)
theorem HOk.kept(x:HOk P w H h)(k:∀ b u,h.get? b=some u→h'.get? b=some u):HOk P w H h':=fun a o e=>
 (x a o e).stay (fun b u _ q=>k b u q) (fun _ q=>q) fun _ _ q=>q
theorem HOk.laid(x:HOk P w H h)(k:∀ b u,h.get? b=some u→h'.get? b=some u)(hp:h.objs.size≤a)(new:aF P w (upd H a o) h' a o):HOk P w (upd H a o) h':=fun b u e=>by
 have hn:=x.fresh hp
 by_cases hb:b=a
 ·subst hb; rw [aa] at e; cases e; exact new
 ·rw [ad hb] at e
  exact(x b u e).stay (fun c v _ q=>k c v q) (fun c q=>by rw [ad (ae q hn)]; exact q) fun c xs q=>by rw [ad (ae q hn)]; exact q
end
def Rd(H:Hp)(a:Addr)(u:HO):Prop:=H a=some u∨∃ o,H a=some (.frz o u)
theorem Rd.ok{P:Program}{w:World}{H:Hp}{h:Heap}{a:Addr}{u:HO}(r:Rd H a u)(x:HOk P w H h):aF P w H h a u:=by
 rcases r with r | ⟨o,r⟩
 ·exact x a u r
 ·obtain⟨_,q⟩:=x a _ r
  exact q
def Mut:Option HO→Prop
 | some (.lst _)=>True
 | some (.dK _)=>True
 | some (.dT _)=>True
 | some (.set _ _)=>True
 | some (.ins _ _ _)=>True
 | some (.ext _)=>True
 | _=>False
section
variable{P:Program}{w:World}{H:Hp}{h h':Heap}{x e:Addr}{o':HO}
theorem HOk.write(ok:HOk P w H h)(mu:Mut (H x))(he:e=x∨H e=some (.own x))(k:∀ b u,b≠e→h.get? b=some u→h'.get? b=some u)(heo:∃ u,h'.get? e=some u)
  (new:aF P w (upd H x o') h' x o'):HOk P w (upd H x o') h':=fun b u q=>by
 have nown:∀ c y,H c=some (.own y)→c≠x:=fun c y r z=>by subst z; rw [r] at mu; exact mu
 have ntup:∀ c xs,H c=some (.tup xs)→c≠x:=fun c xs r z=>by subst z; rw [r] at mu; exact mu
 by_cases hb:b=x
 ·subst hb; rw [aa] at q; cases q; exact new
 ·rw [ad hb] at q
  by_cases hbe:b=e
  ·have q':H b=some (.own x):=by
    rcases he with z | z
    ·exact absurd (hbe.trans z) hb
    ·rw [hbe]; exact z
   rw [q] at q'; cases q'
   obtain⟨v,hv⟩:=heo
   exact⟨v,by rw [hbe]; exact hv⟩
  ·refine(ok b u q).stay (fun c v hc r=>k c v ?_ r) (fun c r=>by rw [ad (nown c b r)]; exact r) fun c xs r=>by rw [ad (ntup c xs r)]; exact r
   rcases hc with rfl | hc
   ·exact hbe
   ·rintro rfl
    rcases he with z | z
    ·exact nown c b hc z
    ·rw [hc] at z; cases z; exact hb rfl
end
structure Un(fs ex:List Addr)(H H':Hp)(h h':Heap):Prop where
 keep:∀ b o,h.get? b=some o→H b=none→b∉fs→b∉ex→h'.get? b=some o
 slot:∀ b o,h.get? b=some o→H b=none→b∈fs→b∉ex→∃ sl,h'.get? b=some {o with slots:=sl}
 free:∀ b o,h.get? b=some o→H b=none→b∉ex→H' b=none
 there:∀ b o,h.get? b=some o→b∉ex→∃ o',h'.get? b=some o'
 tups:∀ b xs,H b=some (.tup xs)→H' b=some (.tup xs)
 frzs:∀ b o u,H b=some (.frz o u)→H' b=some (.frz o u)
 tbls:∀ b ps,H b=some (.tbl ps)→∃ more,H' b=some (.tbl (ps++more))
section
variable{fs fs' ex ex':List Addr}{H H1 H2:Hp}{h h1 h2 h':Heap}{a x e:Addr}{o:HO}
theorem Un.any(u:Un fs ex H H1 h h1){b:Addr}{ob:Obj}(q:h.get? b=some ob)(n:H b=none)(hx:b∉ex):∃ sl,h1.get? b=some {ob with slots:=sl}:=by
 by_cases hb:b∈fs
 ·exact u.slot b ob q n hb hx
 ·exact⟨ob.slots,u.keep b ob q n hb hx⟩
theorem Un.kept(k:∀ b u,h.get? b=some u→h'.get? b=some u):Un fs ex H H h h':=
 ⟨fun b ob q _ _ _=>k b ob q,fun b ob q _ _ _=>⟨ob.slots,k b ob q⟩,fun _ _ _ n _=>n,fun b ob q _=>⟨ob,k b ob q⟩,fun _ _ q=>q,fun _ _ _ q=>q,fun _ ps q=>⟨#[],by rw [q]; simp⟩⟩
theorem Un.refl:Un fs ex H H h h:=Un.kept fun _ _ q=>q
theorem Un.laid(k:∀ b u,h.get? b=some u→h'.get? b=some u)(hp:h.objs.size≤a)(hn:H a=none):Un fs ex H (upd H a o) h h' where
 keep:=fun b u q _ _ _=>k b u q
 slot:=fun b u q _ _ _=>⟨u.slots,k b u q⟩
 free:=fun b u q n _=>by rw [ad (Nat.ne_of_lt (Nat.lt_of_lt_of_le (Heap.lt_size q) hp))]; exact n
 there:=fun b u q _=>⟨u,k b u q⟩
 tups:=fun b xs q=>by rw [ad (ae q hn)]; exact q
 frzs:=fun b u xs q=>by rw [ad (ae q hn)]; exact q
 tbls:=fun b ps q=>⟨#[],by rw [ad (ae q hn),q]; simp⟩
theorem Un.write(mu:Mut (H x))(he:e=x∨H e=some (.own x))(k:∀ b u,b≠e→h.get? b=some u→h'.get? b=some u)(heo:∃ u,h'.get? e=some u):Un fs ex H (upd H x o) h h':=by
 have hx:∀ b,H b=none→b≠x:=fun b n z=>by subst z; rw [n] at mu; exact mu
 have hb:∀ b,H b=none→b≠e:=fun b n z=>by
  subst z
  rcases he with r | r
  ·exact hx b n r
  ·rw [n] at r; cases r
 have hm:∀ b u,H b=some u→¬ Mut (some u)→b≠x:=fun b u q nm z=>by subst z; rw [q] at mu; exact nm mu
 refine⟨fun b u q n _ _=>k b u (hb b n) q,fun b u q n _ _=>⟨u.slots,k b u (hb b n) q⟩,fun b u q n _=>by rw [ad (hx b n)]; exact n,fun b u q _=>?_,
  fun b xs q=>by rw [ad (hm b _ q fun z=>z)]; exact q,fun b u xs q=>by rw [ad (hm b _ q fun z=>z)]; exact q,fun b ps q=>⟨#[],by rw [ad (hm b _ q fun z=>z),q]; simp⟩⟩
 by_cases hbe:b=e
 ·subst hbe; exact heo
 ·exact⟨u,k b u hbe q⟩
end
def trk(h:Heap)(H:Hp):List Addr:=(List.range h.objs.size).filter fun a=>(H a).isSome
def kL(h:Heap)(H:Hp):Heap:=PySem.W.hideAll h (trk h H)
theorem qH(h:Heap)(H:Hp):(kL h H).objs.size=h.objs.size:=PySem.W.hideAll_size _ _
theorem uz{h:Heap}{H:Hp}{b:Addr}{o:Obj}(e:h.get? b=some o)(n:H b=none):(kL h H).get? b=some o:=
 PySem.W.hideAll_get _ e fun hm=>by
  have q:(H b).isSome=true:=(List.mem_filter.mp hm).2
  rw [n] at q; simp at q
theorem wf{h:Heap}{H:Hp}{b:Addr}{o:Obj}(e:(kL h H).get? b=some o):h.get? b=some o∧H b=none:=by
 have e':h.get? b=some o:=PySem.W.of_hideAll (trk h H) e
 refine⟨e',?_⟩
 cases q:H b with
 | none=>rfl
 | some x=>
  have hm:b∈trk h H:=List.mem_filter.mpr ⟨List.mem_range.mpr (Heap.lt_size e'),by simp [q]⟩
  have z:(kL h H).get? b=none:=PySem.W.hideAll_none (trk h H) hm
  rw [z] at e; cases e
def wS(g h:Heap)(L:Addr):List (Addr×Obj):=(List.range h.objs.size).filterMap fun a=>if a=L∨(g.get? a).isSome=true then none else (h.get? a).map fun o=>(a,o)
def rest(g h:Heap)(L d:Addr):List (Addr×Obj):=(wS g h L).filter fun p=>decide (p.1≠d)
structure Mod(K:PySem.W.Frag)(mg:Str→Option Value)(base:Heap):Prop where
 kin:K.In base
 glob:base.Ns mainGlobals mg
 blt:∃ mb,base.Ns builtinsNs mb∧∀ x:Str,x≠"__name__"→mb x=bootBuiltins x
 nolimit:base.NoLimit
 sys:∃ mm,base.Ns sysModules mm
structure Cx where
 prog:Program
 w:World
 K:PySem.W.Frag
 mg:Str→Option Value
 base:Heap
 A:Around
 N:List Str
 s₀:Shared
 H₀:Hp
 env:Env
 outer:List Env
 stack:List Env
 ex:List Addr
 fn:Str→Bool
 calm:Bool
 pn:List (Addr×Obj)
 xe:Value→Shared→Prop
def frs(l:List Env):List Addr:=l.filterMap (·.frame)
abbrev Cx.fs(X:Cx):List Addr:=frs X.outer
def Vis(sc:Scope)(x:Str):Prop:=sc.names.lookup x=some .local∨sc.names.lookup x=some .cell∨sc.names.lookup x=some .free
def Loc(sc:Scope)(x:Str):Prop:=sc.names.lookup x=some .local∨sc.names.lookup x=some .cell
def A6(env:Env)(h:Heap)(m:Str→Option Value)(x:Str)(u:Value):Prop:=
 (env.kindOf x=some .local∧m x=some u)∨((env.kindOf x=some .cell∨env.kindOf x=some .free)∧∃ c,env.cells.lookup x=some c∧h.IsCell c (some u))
structure Cx.Ok(X:Cx):Prop where
 mod:Mod X.K X.mg X.base
 kind:X.env.scope.kind=.function
 glob:X.env.globals=mainGlobals
 blt:X.env.builtins=builtinsNs
 above:X.s₀.heap.objs.size≤X.env.locals
 inj:∀ x y c,X.env.cells.lookup x=some c→X.env.cells.lookup y=some c→x=y
 has:∀ x,(X.env.kindOf x=some .cell∨X.env.kindOf x=some .free)→∃ c,X.env.cells.lookup x=some c
 cab:∀ x c,X.fn x=true→X.env.cells.lookup x=some c→X.s₀.heap.objs.size≤c
 hd:X.calm=true→X.A.handled=none
 frames:X.A.frames=some X.stack
 stk:X.stack=X.outer∨(X.stack=X.env::X.outer∧X.env.frame=some X.env.locals)
 exf:∀ b∈X.ex,b≠X.env.locals∧∀ x c,X.env.cells.lookup x=some c→c≠b
 bs:∀ b o,X.base.get? b=some o→X.s₀.heap.get? b=some o∧X.H₀ b=none
 bsz:X.base.objs.size≤X.s₀.heap.objs.size
 noex:∀ b o,X.base.get? b=some o→b∉X.ex
 exfs:∀ b∈X.ex,b∉X.fs
 funs:X.s₀.heap.FunFrames X.base X.outer
 frf:∀ b∈X.fs,X.H₀ b=none
structure Inv(X:Cx)(pins:List (Addr×Obj))(σ:List (Option V))(H:Hp)(s:Shared):Prop where
 ok:X.Ok
 os:s.os=X.s₀.os
 bare:AllBare s.gens
 base:Un X.fs X.ex X.H₀ H X.s₀.heap s.heap
 loc:∃ m,s.heap.Ns X.env.locals m∧∀ (i:Nat) (x:Str) (v:V),X.N[i]? = some x→σ[i]? = some (some v)→Vis X.env.scope x→∃ u,az v u∧A6 X.env s.heap m x u
 cell:∀ x c,X.env.cells.lookup x=some c→∃ v,s.heap.IsCell c v
 free:H X.env.locals=none
 freeC:∀ x c,X.env.cells.lookup x=some c→H c=none
 pin:∀ p∈X.pn++pins,s.heap.get? p.1=some p.2∧H p.1=none∧p.1≠X.env.locals∧p.1∉X.fs∧∀ v,p.2.data≠.cell v
 hok:HOk X.prog X.w H s.heap
 len:σ.length=X.N.length
section
variable{X:Cx}{pins:List (Addr×Obj)}{σ:List (Option V)}{H H':Hp}{s:Shared}{h':Heap}
theorem Cx.Ok.nofr(ok:X.Ok){b:Addr}{o:Obj}(e:X.base.get? b=some o):b∉X.fs:=fun hb=>by
 have:=(ok.funs.mem hb).1
 rw [e] at this; cases this
theorem Inv.bs(I:Inv X pins σ H s):∀ b o,X.base.get? b=some o→s.heap.get? b=some o∧H b=none:=fun b o e=>
 ⟨I.base.keep b o (I.ok.bs b o e).1 (I.ok.bs b o e).2 (I.ok.nofr e) (I.ok.noex b o e),I.base.free b o (I.ok.bs b o e).1 (I.ok.bs b o e).2 (I.ok.noex b o e)⟩
theorem Inv.bk(I:Inv X pins σ H s):∀ b o,X.base.get? b=some o→s.heap.get? b=some o:=fun b o e=>(I.bs b o e).1
theorem Inv.mod(I:Inv X pins σ H s):Mod X.K X.mg X.base:=I.ok.mod
theorem Inv.kIn(I:Inv X pins σ H s):X.K.In s.heap:=I.ok.mod.kin.keeps I.bk
theorem Inv.lt(I:Inv X pins σ H s):X.env.locals<s.heap.objs.size:=let ⟨_,hn,_⟩:=I.loc; hn.lt
theorem Inv.sz(I:Inv X pins σ H s):X.s₀.heap.objs.size≤s.heap.objs.size:=Nat.le_trans I.ok.above (Nat.le_of_lt I.lt)
theorem Inv.nofs(I:Inv X pins σ H s){a:Addr}(h:s.heap.objs.size≤a):a∉X.fs:=fun hb=>by
 obtain⟨_,o,ho,_⟩:=I.ok.funs.mem hb
 exact absurd (Nat.lt_of_lt_of_le (Heap.lt_size ho) (Nat.le_trans I.sz h)) (Nat.lt_irrefl _)
theorem Inv.cne(I:Inv X pins σ H s):∀ x c,X.env.cells.lookup x=some c→c≠X.env.locals:=fun x c e z=>by
 obtain⟨v,o,ho,hd⟩:=I.cell x c e
 obtain⟨m,⟨o',es,ep,ho',hd',_⟩,_⟩:=I.loc
 rw [z,ho'] at ho; cases ho; rw [hd'] at hd; cases hd
theorem Inv.funs(I:Inv X pins σ H s):s.heap.FunFrames X.base X.outer:=by
 have all:∀ (l:List Env),(∀ b∈frs l,b∈X.fs)→X.s₀.heap.FunFrames X.base l→s.heap.FunFrames X.base l:=by
  intro l
  induction l with
  | nil=>intro _ _; trivial
  | cons env r ih=>
   intro hs hl
   obtain⟨hk,⟨L,o,hf,hn,ho,hd⟩,hr⟩:=hl
   have hL:L∈X.fs:=hs L (by unfold frs; rw [List.filterMap_cons,hf]; exact List.mem_cons_self)
   obtain⟨sl,e⟩:=I.base.slot L o ho (I.ok.frf L hL) hL fun z=>I.ok.exfs L z hL
   exact⟨hk,⟨L,_,hf,hn,e,hd⟩,ih (fun b hb=>hs b (by unfold frs; rw [List.filterMap_cons,hf]; exact List.mem_cons_of_mem _ hb)) hr⟩
 exact all X.outer (fun _ hb=>hb) I.ok.funs
theorem Inv.stack(I:Inv X pins σ H s):s.heap.FunFrames X.base X.stack:=by
 rcases I.ok.stk with e | ⟨e,hf⟩
 ·rw [e]; exact I.funs
 ·rw [e]
  obtain⟨m,hn,_⟩:=I.loc
  refine .cons (by rw [I.ok.kind]; decide) hf hn ?_ I.funs
  exact Heap.get?_none_of_le (Nat.le_trans I.ok.bsz I.ok.above)
theorem Inv.stkSub(I:Inv X pins σ H s):∀ b∈frs X.stack,b∈X.env.locals::X.fs:=fun b hb=>by
 rcases I.ok.stk with e | ⟨e,hf⟩
 ·rw [e] at hb; exact List.mem_cons_of_mem _ hb
 ·rw [e] at hb
  unfold frs at hb
  rw [List.filterMap_cons,hf] at hb
  exact hb
theorem Inv.stkFree(I:Inv X pins σ H s):∀ b∈frs X.stack,H b=none:=fun b hb=>by
 rcases List.mem_cons.mp (I.stkSub b hb) with e | hb
 ·rw [e]; exact I.free
 ·obtain⟨_,o,ho,_⟩:=I.ok.funs.mem hb
  exact I.base.free b o ho (I.ok.frf b hb) fun z=>I.ok.exfs b z hb
theorem Inv.step{g':Array GenState}{t':Nat}{d':Drawn}{ch:List Addr}(I:Inv X pins σ H s)
  (hch:∀ b∈ch,(b∈X.ex∨X.s₀.heap.objs.size≤b)∧b≠X.env.locals∧(∀ x c,X.env.cells.lookup x=some c→c≠b)∧∀ p∈X.pn++pins,p.1≠b)
  (keep:∀ b o,b≠X.env.locals→b∉X.fs→b∉ch→s.heap.get? b=some o→H b=none→h'.get? b=some o)
  (slot:∀ b o,b≠X.env.locals→b∈X.fs→b∉ch→s.heap.get? b=some o→H b=none→∃ sl,h'.get? b=some {o with slots:=sl}) (free:∀ b o,b∉ch→s.heap.get? b=some o→H b=none→H' b=none)
  (there:∀ b o,b∉ch→s.heap.get? b=some o→∃ o',h'.get? b=some o')
  (tups:∀ b xs,H b=some (.tup xs)→H' b=some (.tup xs)) (frzs:∀ b o u,H b=some (.frz o u)→H' b=some (.frz o u)) (tbls:∀ b ps,H b=some (.tbl ps)→∃ more,H' b=some (.tbl (ps++more)))
  (ns:∀ m,s.heap.Ns X.env.locals m→h'.Ns X.env.locals m) (hok:HOk X.prog X.w H' h') (hg:AllBare g') :
  Inv X pins σ H' {s with heap:=h',gens:=g',drawn:=d',toks:=t'}:=by
 have neL:∀ b o,X.s₀.heap.get? b=some o→b≠X.env.locals:=fun b o e=>Nat.ne_of_lt (Nat.lt_of_lt_of_le (Heap.lt_size e) I.ok.above)
 have neC:∀ b o,X.s₀.heap.get? b=some o→b∉X.ex→b∉ch:=fun b o e hx hb=>by
  rcases(hch b hb).1 with z | z
  ·exact hx z
  ·exact absurd (Nat.lt_of_lt_of_le (Heap.lt_size e) z) (Nat.lt_irrefl _)
 have cellK:∀ x c,X.env.cells.lookup x=some c→∀ v,s.heap.IsCell c v→h'.IsCell c v:=fun x c e v ⟨o,ho,hd⟩=>by
  have nch:c∉ch:=fun z=>(hch c z).2.2.1 x c e rfl
  by_cases hc:c∈X.fs
  ·obtain⟨sl,q⟩:=slot c o (I.cne x c e) hc nch ho (I.freeC x c e)
   exact⟨_,q,hd⟩
  ·exact⟨o,keep c o (I.cne x c e) hc nch ho (I.freeC x c e),hd⟩
 refine⟨I.ok,I.os,hg,⟨fun b o e n hb hx=>?_,fun b o e n hb hx=>?_,fun b o e n hx=>?_,fun b o e hx=>?_,fun b xs e=>tups b xs (I.base.tups b xs e),fun b o xs e=>frzs b o xs (I.base.frzs b o xs e),fun b ps e=>?_⟩,?_,fun x c e=>?_,?_,fun x c e=>?_,fun p hp=>?_,hok,I.len⟩
 ·exact keep b o (neL b o e) hb (neC b o e hx) (I.base.keep b o e n hb hx) (I.base.free b o e n hx)
 ·obtain⟨sl,e1⟩:=I.base.slot b o e n hb hx
  obtain⟨sl',e2⟩:=slot b _ (neL b o e) hb (neC b o e hx) e1 (I.base.free b o e n hx)
  exact⟨sl',e2⟩
 ·obtain⟨o',e1⟩:=I.base.there b o e hx
  exact free b o' (neC b o e hx) e1 (I.base.free b o e n hx)
 ·obtain⟨o',e1⟩:=I.base.there b o e hx
  exact there b o' (neC b o e hx) e1
 ·obtain⟨m1,e1⟩:=I.base.tbls b ps e
  obtain⟨m2,e2⟩:=tbls b _ e1
  exact⟨m1++m2,by rw [e2,Array.append_assoc]⟩
 ·obtain⟨m,hn,hl⟩:=I.loc
  refine⟨m,ns m hn,fun i x v e1 e2 e3=>?_⟩
  obtain⟨u,r,l⟩:=hl i x v e1 e2 e3
  refine⟨u,r,?_⟩
  rcases l with l | ⟨k,c,e,z⟩
  ·exact .inl l
  ·exact .inr ⟨k,c,e,cellK x c e _ z⟩
 ·obtain⟨v,z⟩:=I.cell x c e
  exact⟨v,cellK x c e v z⟩
 ·obtain⟨m,⟨o,_,_,ho,_⟩,_⟩:=I.loc
  exact free _ o (fun z=>(hch _ z).2.1 rfl) ho I.free
 ·obtain⟨v,o,ho,hd⟩:=I.cell x c e
  exact free c o (fun z=>(hch c z).2.2.1 x c e rfl) ho (I.freeC x c e)
 ·obtain⟨e,n,ne,nf,d⟩:=I.pin p hp
  have nch:p.1∉ch:=fun z=>(hch p.1 z).2.2.2 p hp rfl
  exact⟨keep p.1 p.2 ne nf nch e n,free p.1 p.2 nch e n,ne,nf,d⟩
theorem Inv.un{t':Nat}(I:Inv X pins σ H s)(u:Un X.fs [] H H' s.heap h')(hok:HOk X.prog X.w H' h'):Inv X pins σ H' {s with heap:=h',toks:=t'}:=by
 obtain⟨m,⟨o,es,ep,ho,r⟩,_⟩:=id I.loc
 obtain⟨sl,hL⟩:=u.any ho I.free (by simp)
 exact I.step (g':=s.gens) (d':=s.drawn) (ch:=[]) (fun _ z=>nomatch z) (fun b o _ hb _ e n=>u.keep b o e n hb (by simp)) (fun b o _ hb _ e n=>u.slot b o e n hb (by simp)) (fun b o _ e n=>u.free b o e n (by simp)) (fun b o _ e=>u.there b o e (by simp)) u.tups u.frzs u.tbls (fun m' hm=>by
  obtain⟨o',es',ep',ho',r'⟩:=hm
  rw [ho] at ho'; cases ho'
  exact⟨_,es',ep',hL,r'⟩) hok I.bare
theorem Inv.call{g':Array GenState}{t':Nat}{d':Drawn}{ch:List Addr}(I:Inv X pins σ H s)(u:Un (frs X.stack) ch H H' s.heap h')(hok:HOk X.prog X.w H' h')(hg:AllBare g')
  (hch:∀ b∈ch,(b∈X.ex∨X.s₀.heap.objs.size≤b)∧b≠X.env.locals∧(∀ x c,X.env.cells.lookup x=some c→c≠b)∧∀ p∈X.pn++pins,p.1≠b) :
  Inv X pins σ H' {s with heap:=h',gens:=g',drawn:=d',toks:=t'}:=by
 obtain⟨m,⟨o,es,ep,ho,r⟩,_⟩:=id I.loc
 obtain⟨sl,hL⟩:=u.any ho I.free fun z=>(hch _ z).2.1 rfl
 exact I.step (ch:=ch) hch (fun b o hL hb hc e n=>u.keep b o e n (fun z=>(List.mem_cons.mp (I.stkSub b z)).elim hL hb) hc) (fun b o _ _ hc e n=>u.any e n hc) (fun b o hc e n=>u.free b o e n hc) (fun b o hc e=>u.there b o e hc) u.tups u.frzs u.tbls (fun m' hm=>by
  obtain⟨o',es',ep',ho',r'⟩:=hm
  rw [ho] at ho'; cases ho'
  exact⟨_,es',ep',hL,r'⟩) hok hg
theorem Inv.turned{t':Nat}{it:Addr}(I:Inv X pins σ H s)(k:∀ b o,b≠it→s.heap.get? b=some o→h'.get? b=some o)(hn:H it=none)(hL:it≠X.env.locals)
  (h1:it∈X.ex∨X.s₀.heap.objs.size≤it) (h2:∀ x c,X.env.cells.lookup x=some c→c≠it) (h3:∀ p∈X.pn++pins,p.1≠it):Inv X pins σ H {s with heap:=h',toks:=t'}:=by
 have nit:∀ b u,H b=some u→b≠it:=fun b u e z=>by rw [z,hn] at e; cases e
 refine I.step (g':=s.gens) (d':=s.drawn) (ch:=[it]) (fun b hb=>?_) (fun b o _ _ hc e _=>k b o (fun z=>hc (by simp [z])) e) (fun b o _ _ hc e _=>⟨o.slots,k b o (fun z=>hc (by simp [z])) e⟩) (fun _ _ _ _ n=>n)
  (fun b o hc e=>⟨o,k b o (fun z=>hc (by simp [z])) e⟩) (fun _ _ e=>e) (fun _ _ _ e=>e) (fun b ps e=>⟨#[],by rw [e]; simp⟩) (fun m hm=>?_) (fun b u e=>?_) I.bare
 ·have e:b=it:=by simpa using hb
  subst e
  exact⟨h1,hL,h2,h3⟩
 ·obtain⟨o,es,ep,ho,r⟩:=hm
  exact⟨o,es,ep,k _ o (Ne.symm hL) ho,r⟩
 ·refine(I.hok b u e).stay (fun c v hc q=>k c v ?_ q) (fun _ q=>q) fun _ _ q=>q
  rcases hc with z | z
  ·rw [z]; exact nit b u e
  ·exact nit c _ z
theorem Inv.tok(I:Inv X pins σ H s)(t:Nat):Inv X pins σ H {s with toks:=t}:=I.un (h':=s.heap) (t':=t) Un.refl I.hok
theorem Inv.kept{t':Nat}(I:Inv X pins σ H s)(k:∀ b u,s.heap.get? b=some u→h'.get? b=some u):Inv X pins σ H {s with heap:=h',toks:=t'}:=I.un (Un.kept k) (I.hok.kept k)
theorem Inv.laid{a:Addr}{o:HO}{t':Nat}(I:Inv X pins σ H s)(k:∀ b u,s.heap.get? b=some u→h'.get? b=some u)(hp:s.heap.objs.size≤a)(new:aF X.prog X.w (upd H a o) h' a o):
  Inv X pins σ (upd H a o) {s with heap:=h',toks:=t'}:=I.un (Un.laid k hp (I.hok.fresh hp)) (I.hok.laid k hp new)
theorem Inv.write{x e:Addr}{o:HO}{t':Nat}(I:Inv X pins σ H s)(mu:Mut (H x))(he:e=x∨H e=some (.own x))(k:∀ b u,b≠e→s.heap.get? b=some u→h'.get? b=some u)(heo:∃ u,h'.get? e=some u)
  (new:aF X.prog X.w (upd H x o) h' x o):Inv X pins σ (upd H x o) {s with heap:=h',toks:=t'}:=I.un (Un.write mu he k heo) (I.hok.write mu he k heo new)
theorem Inv.pins_of{pins':List (Addr×Obj)}(I:Inv X pins σ H s)(h:∀ p∈pins',s.heap.get? p.1=some p.2∧H p.1=none∧p.1≠X.env.locals∧p.1∉X.fs∧∀ v,p.2.data≠.cell v):Inv X pins' σ H s:=
 ⟨I.ok,I.os,I.bare,I.base,I.loc,I.cell,I.free,I.freeC,fun p hp=>(List.mem_append.mp hp).elim (fun z=>I.pin p (List.mem_append_left _ z)) (h p),I.hok,I.len⟩
theorem iP{N:List Str}(hN:N.Nodup){i j:Nat}{x:Str}(a:N[i]? = some x)(b:N[j]? = some x):i=j:=by
 obtain⟨h1,e1⟩:=List.getElem?_eq_some_iff.mp a
 obtain⟨h2,e2⟩:=List.getElem?_eq_some_iff.mp b
 exact(List.getElem_inj hN).mp (e1.trans e2.symm)
theorem gu{M:Model}{A:Around}{E:Value→Shared→Prop}{i:Nat}{x:Str}{v:V}{u:Value}{Q:Unit→Shared→Prop}(I:Inv X pins σ H s)(hN:X.N.Nodup)(hi:X.N[i]? = some x)(hx:Loc X.env.scope x)(r:az v u)
  (h:∀ s',Inv X pins (σ.set i (some v)) H s'→(∃ a,Heap.SameBut a s.heap s'.heap∧(a=X.env.locals∨X.env.cells.lookup x=some a))→Q () s') (hf:X.fn x=true∨X.env.scope.names.lookup x=some .local:=by first | exact .inl rfl | exact .inr rfl | assumption):wpAny M A (storeName X.env x u) Q E s:=by
 obtain⟨m,hn,hl⟩:=id I.loc
 have hcls:(X.env.scope.kind==.class||(X.env.scope.kind==.module&&X.env.locals != X.env.globals))=false:=by rw [I.ok.kind]; rfl
 have hiσ:i<σ.length:=by rw [I.len]; exact(List.getElem?_eq_some_iff.mp hi).1
 have cne:=I.cne
 have tracked:∀ {a:Addr} {h':Heap},(∃ o,s.heap.get? a=some o∧H a=none)→Heap.SameBut a s.heap h'→HOk X.prog X.w H h':=fun {a h'} ha hs b ob e=>by
  obtain⟨_,_,hfree⟩:=ha
  refine(I.hok b ob e).stay (fun c w' hc q=>(hs.2 c ?_).trans q) (fun _ q=>q) fun _ _ q=>q
  rintro rfl
  rcases hc with rfl | hc
  ·rw [hfree] at e; cases e
  ·rw [hfree] at hc; cases hc
 rcases hx with hk | hk
 ·refine wpAny_storeName_local hk hn (fun h' hn' hs=>?_) hcls
  obtain⟨oL,_,_,hoL,_⟩:=id hn
  refine h _ ⟨I.ok,I.os,I.bare,⟨fun b o e n hb hx=>?_,fun b o e n hb hx=>?_,I.base.free,fun b o e hx=>?_,I.base.tups,I.base.frzs,I.base.tbls⟩,⟨_,hn',fun j y v' e1 e2 e3=>?_⟩,fun y c e=>?_,I.free,I.freeC,fun p hp=>?_,tracked ⟨oL,hoL,I.free⟩ hs,by simpa using I.len⟩ ⟨_,hs,.inl rfl⟩
  ·exact(hs.2 b (Nat.ne_of_lt (Nat.lt_of_lt_of_le (Heap.lt_size e) I.ok.above))).trans (I.base.keep b o e n hb hx)
  ·obtain⟨sl,e1⟩:=I.base.slot b o e n hb hx
   exact⟨sl,(hs.2 b (Nat.ne_of_lt (Nat.lt_of_lt_of_le (Heap.lt_size e) I.ok.above))).trans e1⟩
  ·obtain⟨o',e1⟩:=I.base.there b o e hx
   exact⟨o',(hs.2 b (Nat.ne_of_lt (Nat.lt_of_lt_of_le (Heap.lt_size e) I.ok.above))).trans e1⟩
  ·by_cases hj:j=i
   ·subst hj
    rw [hi] at e1; cases e1
    rw [List.getElem?_set_self hiσ] at e2
    cases e2
    exact⟨u,r,.inl ⟨hk,by simp⟩⟩
   ·rw [List.getElem?_set_ne (Ne.symm hj)] at e2
    obtain⟨u',r',q⟩:=hl j y v' e1 e2 e3
    refine⟨u',r',?_⟩
    rcases q with ⟨k,e⟩ | ⟨k,c,e,z⟩
    ·refine .inl ⟨k,?_⟩
     have : y≠x:=fun e=>hj (iP hN e1 (e▸hi))
     simp [this,e]
    ·exact .inr ⟨k,c,e,z.sameBut hs (cne y c e)⟩
  ·obtain⟨w',z⟩:=I.cell y c e
   exact⟨w',z.sameBut hs (cne y c e)⟩
  ·obtain⟨e,n,ne,nf,d⟩:=I.pin p hp
   exact⟨(hs.2 p.1 ne).trans e,n,ne,nf,d⟩
 ·have hfn:X.fn x=true:=by
   rcases hf with z | z
   ·exact z
   ·rw [z] at hk; cases hk
  obtain⟨c,hc⟩:=I.ok.has x (.inl hk)
  obtain⟨w',z⟩:=I.cell x c hc
  refine wpAny_storeName_cell I.ok.kind hk hc z (fun h' hc' hs=>?_)
  obtain⟨oc,hoc,hocd⟩:=id z
  refine h {s with heap:=h'} ⟨I.ok,I.os,I.bare,⟨fun b o e n hb hx=>?_,fun b o e n hb hx=>?_,I.base.free,fun b o e hx=>?_,I.base.tups,I.base.frzs,I.base.tbls⟩,⟨m,hn.sameBut hs (Ne.symm (cne x c hc)),fun j y v' e1 e2 e3=>?_⟩,fun y c' e=>?_,I.free,I.freeC,fun p hp=>?_,tracked ⟨oc,hoc,I.freeC x c hc⟩ hs,by simpa using I.len⟩ ⟨c,hs,.inr hc⟩
  ·exact(hs.2 b (Nat.ne_of_lt (Nat.lt_of_lt_of_le (Heap.lt_size e) (I.ok.cab x c hfn hc)))).trans (I.base.keep b o e n hb hx)
  ·obtain⟨sl,e1⟩:=I.base.slot b o e n hb hx
   exact⟨sl,(hs.2 b (Nat.ne_of_lt (Nat.lt_of_lt_of_le (Heap.lt_size e) (I.ok.cab x c hfn hc)))).trans e1⟩
  ·obtain⟨o',e1⟩:=I.base.there b o e hx
   exact⟨o',(hs.2 b (Nat.ne_of_lt (Nat.lt_of_lt_of_le (Heap.lt_size e) (I.ok.cab x c hfn hc)))).trans e1⟩
  ·by_cases hj:j=i
   ·subst hj
    rw [hi] at e1; cases e1
    rw [List.getElem?_set_self hiσ] at e2
    cases e2
    exact⟨u,r,.inr ⟨.inl hk,c,hc,hc'⟩⟩
   ·rw [List.getElem?_set_ne (Ne.symm hj)] at e2
    obtain⟨u',r',q⟩:=hl j y v' e1 e2 e3
    refine⟨u',r',?_⟩
    rcases q with q | ⟨k,c',e,z'⟩
    ·exact .inl q
    ·refine .inr ⟨k,c',e,z'.sameBut hs ?_⟩
     rintro rfl
     exact hj (iP hN e1 (I.ok.inj _ _ _ e hc▸hi))
  ·by_cases hcc:c'=c
   ·subst hcc; exact⟨_,hc'⟩
   ·obtain⟨w2,z2⟩:=I.cell y c' e
    exact⟨w2,z2.sameBut hs hcc⟩
  ·obtain⟨e,n,ne,nf,d⟩:=I.pin p hp
   refine⟨(hs.2 p.1 ?_).trans e,n,ne,nf,d⟩
   intro q
   rw [q,hoc] at e
   have q':oc=p.2:=Option.some.inj e
   exact d w' (by rw [← q']; exact hocd)
theorem f6{M:Model}{A:Around}{E:Value→Shared→Prop}{i:Nat}{x:Str}{v:V}{u:Value}{Q:Unit→Shared→Prop}(I:Inv X pins σ H s)(hN:X.N.Nodup)(hi:X.N[i]? = some x)(hx:Loc X.env.scope x)(r:az v u)
  (h:∀ s',Inv X pins (σ.set i (some v)) H s'→Q () s') (hf:X.fn x=true∨X.env.scope.names.lookup x=some .local:=by first | exact .inl rfl | exact .inr rfl | assumption):wpAny M A (storeName X.env x u) Q E s:=
 gu I hN hi hx r (fun s' I' _=>h s' I') hf
theorem Inv.call'{s':Shared}{ch:List Addr}(I:Inv X pins σ H s)(ho:s'.os=s.os)(u:Un (frs X.stack) ch H H' s.heap s'.heap)(hok:HOk X.prog X.w H' s'.heap)(hg:AllBare s'.gens)
  (hch:∀ b∈ch,(b∈X.ex∨X.s₀.heap.objs.size≤b)∧b≠X.env.locals∧(∀ x c,X.env.cells.lookup x=some c→c≠b)∧∀ p∈X.pn++pins,p.1≠b):Inv X pins σ H' s':=by
 obtain⟨h',g',d',t',o'⟩:=s'
 have e:o'=s.os:=ho
 subst e
 exact I.call (g':=g') (t':=t') (d':=d') u hok hg hch
end
abbrev XK:=Value→Option Addr→Hp→Prop
abbrev St:=List (Option V)
abbrev VK:=V→Hp→Prop
abbrev TE:=St→Hp→VK→Prop
abbrev TT:=St→Hp→(Bool→Hp→Prop)→Prop
abbrev TA:=St→Hp→(List V→Hp→Prop)→Prop
structure dn where
 nx:St→Hp→Prop
 rt:VK
 bk:St→Hp→Prop:=fun _ _=>False
 ct:St→Hp→Prop:=fun _ _=>False
abbrev TS:=dn→St→Hp→Prop
def EP(X:Cx)(pins:List (Addr×Obj))(σ:St)(Q:VK)(u:Value)(s':Shared):Prop:=∃ v H',Inv X pins σ H' s'∧az v u∧Q v H'
def TP(X:Cx)(pins:List (Addr×Obj))(σ:St)(Q:Bool→Hp→Prop)(b:Bool)(s':Shared):Prop:=∃ H',Inv X pins σ H' s'∧Q b H'
def AP(X:Cx)(pins:List (Addr×Obj))(σ:St)(Q:List V→Hp→Prop)(us:List Value)(s':Shared):Prop:=∃ vs H',Inv X pins σ H' s'∧aw vs us∧Q vs H'
def SP(X:Cx)(pins:List (Addr×Obj))(D:dn)(f:Flow)(s':Shared):Prop:=
 match f with
 | .next=>∃ σ' H',Inv X pins σ' H' s'∧D.nx σ' H'
 | .brk=>∃ σ' H',Inv X pins σ' H' s'∧D.bk σ' H'
 | .cont=>∃ σ' H',Inv X pins σ' H' s'∧D.ct σ' H'
 | .ret u=>∃ v σ' H',Inv X pins σ' H' s'∧az v u∧D.rt v H'
def PE(X:Cx)(e:Expr)(t:TE):Prop:=
 ∀ (pins:List (Addr×Obj)) (s:Shared) (σ:St) (H:Hp) (Q:VK),Inv X pins σ H s→t σ H Q→wpAny (model X.prog X.w) X.A (eval e X.env) (EP X pins σ Q) X.xe s
def PT(X:Cx)(e:Expr)(t:TT):Prop:=
 ∀ (pins:List (Addr×Obj)) (s:Shared) (σ:St) (H:Hp) (Q:Bool→Hp→Prop),Inv X pins σ H s→t σ H Q→wpAny (model X.prog X.w) X.A (isTrue e X.env (eval e X.env)) (TP X pins σ Q) X.xe s
def PW(X:Cx)(e:Expr)(t:TT):Prop:=
 ∀ (whole:Sem Value) (pins:List (Addr×Obj)) (s:Shared) (σ:St) (H:Hp) (Q:Bool→Hp→Prop),Inv X pins σ H s→t σ H Q→wpAny (model X.prog X.w) X.A (isTrue e X.env whole) (TP X pins σ Q) X.xe s
theorem PW.pt{X:Cx}{e:Expr}{t:TT}(h:PW X e t):PT X e t:=h _
def PA(X:Cx)(es:List Expr)(t:TA):Prop:=
 ∀ (pos:Pos) (pins:List (Addr×Obj)) (s:Shared) (σ:St) (H:Hp) (Q:List V→Hp→Prop),Inv X pins σ H s→t σ H Q→wpAny (model X.prog X.w) X.A (spliced (backTo pos (starEach es X.env))) (AP X pins σ Q) X.xe s
def PS(X:Cx)(st:Stmt)(t:TS):Prop:=
 ∀ (pins:List (Addr×Obj)) (s:Shared) (σ:St) (H:Hp) (D:dn),Inv X pins σ H s→t D σ H→wpAny (model X.prog X.w) X.A (exec st X.env) (SP X pins D) X.xe s
def PSs(X:Cx)(st:List Stmt)(t:TS):Prop:=
 ∀ (pins:List (Addr×Obj)) (s:Shared) (σ:St) (H:Hp) (D:dn),Inv X pins σ H s→t D σ H→wpAny (model X.prog X.w) X.A (execs st X.env) (SP X pins D) X.xe s
theorem thn{α:Type}{t:Sem α}{Q Q':α→Shared→Prop}{M:Model}{A:Around}{E:Value→Shared→Prop}{s:Shared}(h:wpAny M A t Q E s)(hQ:∀ a s,Q a s→Q' a s):wpAny M A t Q' E s:=wpAny_mono h hQ fun _ _ x=>x
section
variable{X:Cx}
inductive tVarI(i:Nat)(σ:St)(H:Hp)(Q:VK):Prop where
 | mk:∀ v,σ[i]? = some (some v)→Q v H→tVarI i σ H Q
def cT(i:Nat):TE:=fun σ H Q=>tVarI i σ H Q
def tC(v:V):TE:=fun _ H Q=>Q v H
theorem tj{i:Nat}{x:Str}{pos:Pos}(hN:X.N[i]? = some x)(hv:Vis X.env.scope x)(hd:(x==("__debug__":Str))=false:=by decide)(hcd:(x==("__classdict__":Str))=false:=by decide):PE X (.Name x pos) (cT i):=by
 intro pins s σ H Q I h
 obtain⟨v,e,h⟩:=h
 obtain⟨m,hn,hl⟩:=I.loc
 obtain⟨u,r,l⟩:=hl i x v hN e hv
 have fin:EP X pins σ Q u s:=⟨v,H,I,r,h⟩
 rcases l with ⟨hk,hm⟩ | ⟨hk,c,hc,hcell⟩
 ·exact wpAny_Name (wpAny_loadName_local I.ok.kind hk hn hm fin) hd
 ·rcases hk with hk | hk
  ·exact wpAny_Name (wpAny_loadName_cell I.ok.kind hk hc hcell fin) hd
  ·exact wpAny_Name (wpAny_loadName_free I.ok.kind hk hc hcell fin hcd) hd
theorem dM{i j pos}:PE X (.Constant (.int i) j pos) (tC (.int i)):=fun _ _ _ H _ I h=>wpAny_Constant_int ⟨.int i,H,I.tok _,⟨_,rfl⟩,h⟩
theorem zt{b j pos}:PE X (.Constant (.bool b) j pos) (tC (.bl b)):=fun _ _ _ H _ I h=>Constant_bool ⟨.bl b,H,I,rfl,h⟩
theorem x6{j pos}:PE X (.Constant .none j pos) (tC .non):=fun _ _ _ H _ I h=>Constant_none ⟨.non,H,I,rfl,h⟩
theorem kC{x j pos}:PE X (.Constant (.str x) j pos) (tC (.str x)):=fun _ _ _ H _ I h=>Calls.Constant_str ⟨.str x,H,I.tok _,⟨_,rfl⟩,h⟩
def Gl(X:Cx)(x:Str):Prop:=X.env.kindOf x=some .globalImplicit
theorem ip{E:Value→Shared→Prop}{pins:List (Addr×Obj)}{s:Shared}{σ:St}{H:Hp}{x:Str}{u:Value}{pos:Pos}{Q:Value→Shared→Prop}(I:Inv X pins σ H s)(hg:Gl X x)(hm:X.mg x=some u)(h:Q u s)
  (hd:(x==("__debug__":Str))=false:=by decide):wpAny (model X.prog X.w) X.A (eval (.Name x pos) X.env) Q E s:=
 Calls.Name_function_global I.ok.kind hg (Calls.loadGlobal_global (by rw [I.ok.glob]; exact I.mod.glob.keeps I.bk) hm h) hd
theorem fH{E:Value→Shared→Prop}{pins:List (Addr×Obj)}{s:Shared}{σ:St}{H:Hp}{x:Str}{u:Value}{pos:Pos}{Q:Value→Shared→Prop}(I:Inv X pins σ H s)(hg:Gl X x)(hm:X.mg x=none)(hv:bootBuiltins x=some u)(h:Q u s)
  (hn:x≠"__name__":=by decide) (hd:(x==("__debug__":Str))=false:=by decide):wpAny (model X.prog X.w) X.A (eval (.Name x pos) X.env) Q E s:=by
 obtain⟨mb,h1,h2⟩:=I.mod.blt
 exact Calls.Name_function_global I.ok.kind hg (Calls.loadGlobal_builtin (by rw [I.ok.glob]; exact I.mod.glob.keeps I.bk) hm (by rw [I.ok.blt]; exact h1.keeps I.bk) ((h2 x hn).trans hv) h) hd
theorem vD{x:Str}{v:V}{u:Value}{pos:Pos}(hg:Gl X x)(hm:X.mg x=some u)(r:az v u)(hd:(x==("__debug__":Str))=false:=by decide):PE X (.Name x pos) (tC v):=
 fun _ _ _ H _ I h=>ip I hg hm ⟨v,H,I,r,h⟩ hd
theorem gf{x:Str}{v:V}{u:Value}{pos:Pos}(hg:Gl X x)(hm:X.mg x=none)(hv:bootBuiltins x=some u)(r:az v u)(hn:x≠"__name__":=by decide)(hd:(x==("__debug__":Str))=false:=by decide):PE X (.Name x pos) (tC v):=
 fun _ _ _ H _ I h=>fH I hg hm hv ⟨v,H,I,r,h⟩ hn hd
variable{a b:Expr}{ta tb:TE}{pos:Pos}
def PC(X:Cx)(op:CmpOp)(a b:Expr)(t:TE):Prop:=
 ∀ (pins:List (Addr×Obj)) (s:Shared) (σ:St) (H:Hp) (Q:VK),Inv X pins σ H s→t σ H Q→
  wpAny (model X.prog X.w) X.A (eval a X.env) (fun v s₁=>wpAny (model X.prog X.w) X.A (eval b X.env) (fun u s₂=>wpAny (model X.prog X.w) X.A (compareOp op v u) (EP X pins σ Q) X.xe s₂) X.xe s₁) X.xe s
inductive tBI(Q:(Bool→Hp→Prop))(x:V)(H1:Hp):Prop where
 | mk:∀ c,x=.bl c→Q c H1→tBI Q x H1
def tB(t:TE):TT:=fun σ H Q=>t σ H fun x H1=>tBI Q x H1
theorem xM{op:CmpOp}{t:TE}(h:PC X op a b t)(h1:behindInMarks op b=false:=by first | exact nobehind _ (by decide) (by decide) | rfl):PT X (.Compare a [op] [b] pos) (tB t):=by
 intro pins s σ H Q I hw
 refine wpAny_isTrue_Compare1 (thn (h pins s σ H _ I hw) fun v s1 h1=>thn h1 fun u s2 h2=>thn h2 fun c s3 ⟨x,H1,I1,r1,q1⟩=>?_) h1
 obtain⟨d,rfl,q⟩:=q1
 cases r1
 exact wpAny_truthy_bool ⟨H1,I1,q⟩
theorem xL{e:Expr}{t:TE}(h:PE X e t)(he:∀ whole,isTrue e X.env whole=(do let v ← whole; standAt e.pos; holding [v] (truthy v)):=by intro _; rfl):PT X e (tB t):=by
 intro pins s σ H Q I hw
 refine isTrue_plain (thn (h pins s σ H _ I hw) fun v s1 ⟨x,H1,I1,r1,q1⟩=>?_) (he _)
 obtain⟨d,rfl,q⟩:=q1
 cases r1
 exact wpAny_truthy_bool ⟨H1,I1,q⟩
variable{tA tB':TT}{rest:List Expr}
def Ax(t u:TT):TT:=fun σ H Q=>t σ H fun c H1=>if c=true then u σ H1 Q else Q false H1
def tOr(t u:TT):TT:=fun σ H Q=>t σ H fun c H1=>if c=true then Q true H1 else u σ H1 Q
def As(t:TT):TT:=fun σ H Q=>t σ H fun c H1=>Q (!c) H1
theorem vn(ha:PT X a tA):PW X (.BoolOp .And [a] pos) tA:=by
 intro wh pins s σ H Q I h
 refine isTrue_and (thn (ha pins s σ H Q I h) fun c s1 e=>?_)
 cases c with
 | true=>exact isTrue_and_nil e
 | false=>exact e
theorem sO(ha:PT X a tA):PW X (.BoolOp .Or [a] pos) tA:=by
 intro wh pins s σ H Q I h
 refine isTrue_or (thn (ha pins s σ H Q I h) fun c s1 e=>?_)
 cases c with
 | false=>exact isTrue_or_nil e
 | true=>exact e
theorem xK(ha:PT X a tA)(hb:PW X (.BoolOp .And (b::rest) pos) tB'):PW X (.BoolOp .And (a::b::rest) pos) (Ax tA tB'):=by
 intro wh pins s σ H Q I h
 refine isTrue_and (thn (ha pins s σ H _ I h) fun c s1 ⟨H1,I1,q1⟩=>?_)
 cases c with
 | true=>exact hb wh pins s1 σ H1 Q I1 q1
 | false=>exact⟨H1,I1,q1⟩
theorem xk(ha:PT X a tA)(hb:PW X (.BoolOp .Or (b::rest) pos) tB'):PW X (.BoolOp .Or (a::b::rest) pos) (tOr tA tB'):=by
 intro wh pins s σ H Q I h
 refine isTrue_or (thn (ha pins s σ H _ I h) fun c s1 ⟨H1,I1,q1⟩=>?_)
 cases c with
 | true=>exact⟨H1,I1,q1⟩
 | false=>exact hb wh pins s1 σ H1 Q I1 q1
theorem sP(ha:PT X a tA):PT X (.UnaryOp .Not a pos) (As tA):=by
 intro pins s σ H Q I h
 exact isTrue_not (ha pins s σ H (fun c H1=>Q (!c) H1) I h)
inductive tAndVI(tb:TE)(σ:St)(Q:VK)(x:V)(H1:Hp):Prop where
 | mk:∀ c,x=.bl c→(if c=true then tb σ H1 Q else Q (.bl false) H1)→tAndVI tb σ Q x H1
def zc(ta tb:TE):TE:=fun σ H Q=>ta σ H fun x H1=>tAndVI tb σ Q x H1
inductive tOrVI(tb:TE)(σ:St)(Q:VK)(x:V)(H1:Hp):Prop where
 | mk:∀ c,x=.bl c→(if c=true then Q (.bl true) H1 else tb σ H1 Q)→tOrVI tb σ Q x H1
def Ar(ta tb:TE):TE:=fun σ H Q=>ta σ H fun x H1=>tOrVI tb σ Q x H1
theorem xZ{op}{t:TE}(h:PE X a t):PE X (.BoolOp op [a] pos) t:=fun pins s σ H Q I hw=>BoolOp_one (h pins s σ H Q I hw)
theorem yb(ha:PE X a ta)(hb:PE X (.BoolOp .And (b::rest) pos) tb):PE X (.BoolOp .And (a::b::rest) pos) (zc ta tb):=by
 intro pins s σ H Q I h
 refine BoolOp_and (thn (ha pins s σ H _ I h) fun v s1 ⟨x,H1,I1,r1,q1⟩=>?_)
 obtain⟨c,rfl,q1⟩:=q1
 cases r1
 refine wpAny_truthy_bool ?_
 cases c with
 | true=>exact hb pins s1 σ H1 Q I1 q1
 | false=>exact⟨.bl false,H1,I1,rfl,q1⟩
theorem zp(ha:PE X a ta)(hb:PE X (.BoolOp .Or (b::rest) pos) tb):PE X (.BoolOp .Or (a::b::rest) pos) (Ar ta tb):=by
 intro pins s σ H Q I h
 refine BoolOp_or (thn (ha pins s σ H _ I h) fun v s1 ⟨x,H1,I1,r1,q1⟩=>?_)
 obtain⟨c,rfl,q1⟩:=q1
 cases r1
 refine wpAny_truthy_bool ?_
 cases c with
 | false=>exact hb pins s1 σ H1 Q I1 q1
 | true=>exact⟨.bl true,H1,I1,rfl,q1⟩
end
def SqL(K:PySem.W.Frag)(H:Hp)(a:Addr)(xs:List V):Prop:=
 Rd H a (.lst xs)∨
  ∃ (o:Obj) (its:Array Value) (n:Nat),K.lookup a=some o∧o.cls=.type "list"∧o.dict=none∧o.data=.seq its n∧its.size≤sizeLine∧aw xs its.toList
def SqT(K:PySem.W.Frag)(H:Hp)(a:Addr)(xs:List V):Prop:=
 Rd H a (.tup xs)∨
  ∃ (o:Obj) (its:Array Value) (n:Nat),K.lookup a=some o∧o.cls=.type "tuple"∧o.data=.seq its n∧its.size≤sizeLine∧aw xs its.toList
def A4:Value→Option V
 | .none=>some .non
 | .bool b=>some (.bl b)
 | .int i _=>some (.int i)
 | .str x _=>some (.str x)
 | .bytes b _=>some (.byt b)
 | .float b _=>some (.flt b)
 | .ref a=>some (.ref a)
 | .type n=>some (.ty n)
 | _=>none
theorem az.abs{x:V}{u:Value}(r:az x u):A4 u=some x:=by
 cases x with
 | non=>cases r; rfl
 | bl _=>cases r; rfl
 | int _=>obtain⟨t,rfl⟩:=r; rfl
 | str _=>obtain⟨t,rfl⟩:=r; rfl
 | byt _=>obtain⟨t,rfl⟩:=r; rfl
 | flt _=>obtain⟨t,rfl⟩:=r; rfl
 | ref _=>cases r; rfl
 | ty _=>cases r; rfl
theorem az.inj{x y:V}{u:Value}(r:az x u)(q:az y u):x=y:=Option.some.inj (r.abs.symm.trans q.abs)
theorem aw.inj:∀ {xs ys:List V} {us:List Value},aw xs us→aw ys us→xs=ys
 | _,_,_,.nil,.nil=>rfl
 | _,_,_,.cons r t,.cons r' t'=>by rw [r.inj r',aw.inj t t']
section
variable{X:Cx}{pins:List (Addr×Obj)}{σ:St}{H:Hp}{s:Shared}{a:Addr}{xs ys:List V}
theorem SqL.of{K:PySem.W.Frag}(h:H a=some (.lst xs)):SqL K H a xs:=.inl (.inl h)
theorem SqT.of{K:PySem.W.Frag}(h:H a=some (.tup xs)):SqT K H a xs:=.inl (.inl h)
theorem Inv.list(I:Inv X pins σ H s)(h:SqL X.K H a xs):∃ its:List Value,aw xs its∧PlainL s.heap a its.toArray∧xs.length≤sizeLine:=by
 rcases h with h | ⟨o,its,n,hk,hc,hd,hs,hz,r⟩
 ·obtain⟨z,its,n,r,e⟩:=h.ok I.hok
  exact⟨its,r,⟨_,n,e,rfl,rfl,rfl⟩,z⟩
 ·refine⟨its.toList,r,⟨o,n,I.kIn a o hk,hc,hd,by simpa using hs⟩,?_⟩
  have e:=r.length
  simp only [Array.length_toList] at e
  omega
theorem Inv.tuple(I:Inv X pins σ H s)(h:SqT X.K H a xs):∃ its:List Value,aw xs its∧IsTup s.heap a its.toArray∧xs.length≤sizeLine:=by
 rcases h with h | ⟨o,its,n,hk,hc,hs,hz,r⟩
 ·obtain⟨z,its,r,p⟩:=h.ok I.hok
  exact⟨its,r,p,z⟩
 ·refine⟨its.toList,r,⟨o,I.kIn a o hk,hc,n,by simpa using hs⟩,?_⟩
  have e:=r.length
  simp only [Array.length_toList] at e
  omega
theorem Inv.list_inj(I:Inv X pins σ H s)(h:SqL X.K H a xs)(h':SqL X.K H a ys):xs=ys:=by
 obtain⟨its,r,⟨o,n,e,_,_,d⟩,_⟩:=I.list h
 obtain⟨its',r',⟨o',n',e',_,_,d'⟩,_⟩:=I.list h'
 rw [e] at e'; cases e'
 rw [d] at d'
 injection d' with d1 _
 have : its=its':=by simpa using congrArg Array.toList d1
 subst this
 exact r.inj r'
theorem Inv.tuple_inj(I:Inv X pins σ H s)(h:SqT X.K H a xs)(h':SqT X.K H a ys):xs=ys:=by
 obtain⟨its,r,⟨o,e,_,n,d⟩,_⟩:=I.tuple h
 obtain⟨its',r',⟨o',e',_,n',d'⟩,_⟩:=I.tuple h'
 rw [e] at e'; cases e'
 rw [d] at d'
 injection d' with d1 _
 have : its=its':=by simpa using congrArg Array.toList d1
 subst this
 exact r.inj r'
end
abbrev Cx.wish(X:Cx)(E:Value→Shared→Prop):Cx:={X with xe:=E}
abbrev Cx.nox(X:Cx):Cx:=X.wish fun _ _=>False
theorem Cx.Ok.wish{X:Cx}(ok:X.Ok)(E:Value→Shared→Prop):(X.wish E).Ok:=
 ⟨ok.mod,ok.kind,ok.glob,ok.blt,ok.above,ok.inj,ok.has,ok.cab,ok.hd,ok.frames,ok.stk,ok.exf,ok.bs,ok.bsz,ok.noex,ok.exfs,ok.funs,ok.frf⟩
theorem Cx.Ok.unwish{X:Cx}{E:Value→Shared→Prop}(ok:(X.wish E).Ok):X.Ok:=
 ⟨ok.mod,ok.kind,ok.glob,ok.blt,ok.above,ok.inj,ok.has,ok.cab,ok.hd,ok.frames,ok.stk,ok.exf,ok.bs,ok.bsz,ok.noex,ok.exfs,ok.funs,ok.frf⟩
section
variable{X:Cx}{pins:List (Addr×Obj)}{σ:St}{H:Hp}{s:Shared}{E:Value→Shared→Prop}
theorem Inv.wish(I:Inv X pins σ H s)(E:Value→Shared→Prop):Inv (X.wish E) pins σ H s:=⟨I.ok.wish E,I.os,I.bare,I.base,I.loc,I.cell,I.free,I.freeC,I.pin,I.hok,I.len⟩
theorem Inv.unwish(I:Inv (X.wish E) pins σ H s):Inv X pins σ H s:=⟨I.ok.unwish,I.os,I.bare,I.base,I.loc,I.cell,I.free,I.freeC,I.pin,I.hok,I.len⟩
theorem SP.unwish{D:dn}{f:Flow}{s':Shared}(h:SP (X.wish E) pins D f s'):SP X pins D f s':=by
 cases f with
 | next=>obtain⟨σ',H',I,q⟩:=h; exact⟨σ',H',I.unwish,q⟩
 | brk=>obtain⟨σ',H',I,q⟩:=h; exact⟨σ',H',I.unwish,q⟩
 | cont=>obtain⟨σ',H',I,q⟩:=h; exact⟨σ',H',I.unwish,q⟩
 | ret u=>obtain⟨v,σ',H',I,r,q⟩:=h; exact⟨v,σ',H',I.unwish,r,q⟩
theorem PE.nox{e:Expr}{t:TE}(h:PE X.nox e t):PE X e t:=fun pins s σ H Q I hw=>
 wpAny_mono (h pins s σ H Q (I.wish _) hw) (fun _ _ ⟨v,H',I',r,q⟩=>⟨v,H',I'.unwish,r,q⟩) fun _ _ z=>False.elim z
theorem PT.nox{e:Expr}{t:TT}(h:PT X.nox e t):PT X e t:=fun pins s σ H Q I hw=>
 wpAny_mono (h pins s σ H Q (I.wish _) hw) (fun _ _ ⟨H',I',q⟩=>⟨H',I'.unwish,q⟩) fun _ _ z=>False.elim z
theorem PSs.nox{st:List Stmt}{t:TS}(h:PSs X.nox st t):PSs X st t:=fun pins s σ H D I hw=>
 wpAny_mono (h pins s σ H D (I.wish _) hw) (fun _ _ q=>q.unwish) fun _ _ z=>False.elim z
end
section
variable{X:Cx}{st:Stmt}{rest:List Stmt}{t u:TS}{e:Expr}{te:TE}{pos:Pos}
def oJ:TS:=fun D σ H=>D.nx σ H
def u3(t u:TS):TS:=fun D σ H=>t {D with nx:=u D} σ H
theorem im:PSs X [] oJ:=fun _ _ σ H _ I h=>wpAny_execs_nil ⟨σ,H,I,h⟩
theorem er(h1:PS X st t)(h2:PSs X rest u):PSs X (st::rest) (u3 t u):=by
 intro pins s σ H D I h
 refine wpAny_execs_cons (thn (h1 pins s σ H {D with nx:=u D} I h) fun f s1 q=>?_)
 cases f with
 | next=>
  obtain⟨σ',H',I',q⟩:=q
  exact h2 pins s1 σ' H' D I' q
 | ret v=>exact q
 | brk=>exact q
 | cont=>exact q
theorem bU(h1:PS X st t):PSs X [st] t:=by
 intro pins s σ H D I h
 refine wpAny_execs_cons (thn (h1 pins s σ H D I h) fun f s1 q=>?_)
 cases f with
 | next=>exact wpAny_execs_nil q
 | ret v=>exact q
 | brk=>exact q
 | cont=>exact q
theorem Inv.quiet{pins:List (Addr×Obj)}{σ:St}{H:Hp}{s:Shared}(I:Inv X pins σ H s):interactive X.env=false:=by simp [interactive,I.ok.kind]
def y9(te:TE):TS:=fun D σ H=>te σ H fun _ H1=>D.nx σ H1
theorem io(he:PE X e te)(hs:swapsWith e none pos.line X.env=pure false:=by rfl):PS X (.Expr e pos) (y9 te):=by
 intro pins s σ H D I h
 exact wpAny_Expr_any (thn (he pins s σ H _ I h) fun v s1 ⟨x,H1,I1,r1,q1⟩=>⟨σ,H1,I1,q1⟩) I.quiet hs
def y3(te:TE):TS:=fun D σ H=>te σ H D.rt
theorem sW(he:PE X e te):PS X (.Return (some e) pos) (y3 te):=by
 intro pins s σ H D I h
 exact wpAny_Return_some (thn (he pins s σ H _ I h) fun v s1 ⟨x,H1,I1,r1,q1⟩=>⟨x,σ,H1,I1,r1,q1⟩)
def Au(c:TT)(t u:TS):TS:=fun D σ H=>c σ H fun b H1=>if b=true then t D σ H1 else u D σ H1
theorem jB{c:Expr}{a b:List Stmt}{tc:TT}(hc:PT X c tc)(ha:PSs X a t)(hb:PSs X b u):PS X (.If c a b pos) (Au tc t u):=by
 intro pins s σ H D I h
 refine wpAny_If (thn (hc pins s σ H _ I h) fun d s1 ⟨H1,I1,q1⟩=>?_)
 cases d with
 | true=>exact ha pins s1 σ H1 D I1 q1
 | false=>exact hb pins s1 σ H1 D I1 q1
def xF:TS:=fun _ _ _=>False
theorem iL:PS X st xF:=fun _ _ _ _ _ _ h=>h.elim
end
abbrev TG:=V→St→Hp→(St→Hp→Prop)→Prop
abbrev TGs:=List V→St→Hp→(St→Hp→Prop)→Prop
def PG(X:Cx)(target:Expr)(t:TG):Prop:=
 ∀ (pins:List (Addr×Obj)) (s:Shared) (σ:St) (H:Hp) (v:V) (u:Value) (Q:St→Hp→Prop),Inv X pins σ H s→az v u→t v σ H Q→
  wpAny (model X.prog X.w) X.A (assign target X.env u) (fun _ s'=>∃ σ' H',Inv X pins σ' H' s'∧Q σ' H') X.xe s
def PGs(X:Cx)(ts:List Expr)(t:TGs):Prop:=
 ∀ (pins:List (Addr×Obj)) (s:Shared) (σ:St) (H:Hp) (vs:List V) (us:List Value) (Q:St→Hp→Prop),Inv X pins σ H s→aw vs us→t vs σ H Q→
  wpAny (model X.prog X.w) X.A (assignInOrder ((assignEach ts X.env).map (·.2)) us) (fun _ s'=>∃ σ' H',Inv X pins σ' H' s'∧Q σ' H') X.xe s
abbrev uR:=V→V→V→Hp→(Hp→Prop)→Prop
def yV(X:Cx)(t:uR):Prop:=
 ∀ (pins:List (Addr×Obj)) (s:Shared) (σ:St) (H:Hp) (o i v:V) (ov iv u:Value) (Q:Hp→Prop),Inv X pins σ H s→az o ov→az i iv→az v u→t o i v H Q→
  wpAny (model X.prog X.w) X.A (setItem ov iv u) (fun _ s'=>∃ H',Inv X pins σ H' s'∧Q H') X.xe s
abbrev TIp:=V→V→Hp→VK→Prop
def PIp(X:Cx)(op:Operator)(t:TIp):Prop:=
 ∀ (pins:List (Addr×Obj)) (s:Shared) (σ:St) (H:Hp) (x y:V) (v u:Value) (Q:VK),Inv X pins σ H s→az x v→az y u→t x y H Q→
  wpAny (model X.prog X.w) X.A (inplaceOp op v u) (EP X pins σ Q) X.xe s
section
variable{X:Cx}{pos:Pos}
def aV(i:Nat):TG:=fun v σ H Q=>Q (σ.set i (some v)) H
theorem kz{i:Nat}{x:Str}(hN:X.N.Nodup)(hi:X.N[i]? = some x)(hx:Loc X.env.scope x)(hf:X.fn x=true∨X.env.scope.names.lookup x=some .local:=by first | exact .inl rfl | exact .inr rfl | assumption):PG X (.Name x pos) (aV i):=by
 intro pins s σ H v u Q I r h
 exact wpAny_assign_Name (f6 I hN hi hx r (fun s' I'=>⟨_,H,I',h⟩) hf)
def qK:TGs:=fun vs σ H Q=>vs=[]∧Q σ H
inductive gConsI(t:TG)(u:TGs)(vs:List V)(σ:St)(H:Hp)(Q:(St→Hp→Prop)):Prop where
 | mk:∀ v r,vs=v::r→(t v σ H fun σ' H'=>u r σ' H' Q)→gConsI t u vs σ H Q
def cW(t:TG)(u:TGs):TGs:=fun vs σ H Q=>gConsI t u vs σ H Q
theorem o9:PGs X [] qK:=by
 intro pins s σ H vs us Q I r h
 obtain⟨e,h⟩:=h
 subst e
 cases r
 exact assignInOrder_nil ⟨σ,H,I,h⟩
theorem lK{e:Expr}{es:List Expr}{t:TG}{u:TGs}(h1:PG X e t)(h2:PGs X es u)
  (hs:(assignEach (e::es) X.env).map (·.2)=assign e X.env::(assignEach es X.env).map (·.2):=by rfl):PGs X (e::es) (cW t u):=by
 intro pins s σ H vs us Q I r h
 obtain⟨v,vr,e1,h⟩:=h
 subst e1
 cases r with
 | cons r rr=>
  rw [hs]
  refine assignInOrder_cons (thn (h1 pins s σ H _ _ _ I r h) fun _ s1 ⟨σ1,H1,I1,q1⟩=>?_)
  exact h2 pins s1 σ1 H1 _ _ Q I1 rr q1
inductive gTupI(K:PySem.W.Frag)(n:Nat)(t:TGs)(v:V)(σ:St)(H:Hp)(Q:(St→Hp→Prop)):Prop where
 | mk:∀ a xs,v=.ref a→SqT K H a xs→xs.length=n→t xs σ H Q→gTupI K n t v σ H Q
def qJ(K:PySem.W.Frag)(n:Nat)(t:TGs):TG:=fun v σ H Q=>gTupI K n t v σ H Q
theorem nE{es:List Expr}{k:Nat}{t:TGs}{n:Nat}(hc:X.calm=true)(h:PGs X es t)
  (hn:(assignEach es X.env).length=n:=by rfl) (hst:(assignEach es X.env).findIdx? (·.1)=none:=by rfl):PG X (.Tuple es k pos) (qJ X.K n t):=by
 intro pins s σ H v u Q I r hw
 obtain⟨a,xs,e1,hq,hl,hw⟩:=hw
 subst e1
 cases r
 obtain⟨its,rv,ht,hz⟩:=I.tuple hq
 refine assign_Tuple_tuple (I.ok.hd hc) ht (by simp [hn,← hl,rv.length]) hst fun h' hx=>?_
 have I1:Inv X pins σ H {s with heap:=h'}:=I.kept (t':=s.toks) fun b o e=>hx b o (Nat.ne_of_lt (Heap.lt_size e)) e
 exact h pins _ σ H xs _ Q I1 (by simpa using rv) hw
def AR(to ti:TE)(t:uR):TG:=fun v σ H Q=>to σ H fun o H1=>ti σ H1 fun i H2=>t o i v H2 fun H3=>Q σ H3
theorem xW{o i:Expr}{to ti:TE}{t:uR}(ho:PE X o to)(hi:PE X i ti)(hs:yV X t)
  (ha:∀ v,assign (.Subscript o i pos) X.env v=(do
   let ov ← holding [v] (eval o X.env)
   let iv ← holding [v,ov] (eval i X.env)
   standAt pos
   holding [v,ov,iv] (setItem ov iv v)
   release [v,ov,iv] []):=by intro _; rfl):PG X (.Subscript o i pos) (AR to ti t):=by
 intro pins s σ H v u Q I r h
 rw [ha]
 refine wpAny_bind (wpAny_holding (thn (ho pins s σ H _ I h) fun ov s1 ⟨x,H1,I1,r1,q1⟩=>?_))
 refine wpAny_bind (wpAny_holding (thn (hi pins s1 σ H1 _ I1 q1) fun iv s2 ⟨y,H2,I2,r2,q2⟩=>?_))
 refine wpAny_bind (wpAny_standAt (wpAny_bind (wpAny_holding (thn (hs pins s2 σ H2 x y v ov iv u _ I2 r1 r2 r q2) fun _ s3 ⟨H3,I3,q3⟩=>?_))))
 exact wpAny_release ⟨σ,H3,I3,q3⟩
def j4(te:TE)(g:TG):TS:=fun D σ H=>te σ H fun x H1=>g x σ H1 D.nx
theorem xR{tg e:Expr}{te:TE}{g:TG}(he:PE X e te)(hg:PG X tg g)(hs:swapsWithSole [tg] e pos.line X.env=pure false:=by rfl)(hw:swappedStores [tg] e X.env=pure none:=by rfl)
  (h1:(assignEach [tg] X.env).map (·.2)=[assign tg X.env]:=by rfl):PS X (.Assign [tg] e pos) (j4 te g):=by
 intro pins s σ H D I h
 refine wpAny_Assign_stores (thn (he pins s σ H _ I h) fun v s1 ⟨x,H1,I1,r1,q1⟩=>?_) hs hw
 rw [h1]
 exact thn (hg pins s1 σ H1 x v _ I1 r1 q1) fun _ s2 q=>q
theorem sV{i:Nat}{x:Str}{e:Expr}{te:TE}{pos':Pos}(hN:X.N.Nodup)(hi:X.N[i]? = some x)(hx:Loc X.env.scope x)(he:PE X e te)(hs:swapsWith e (some (.Name x pos')) pos.line X.env=pure false:=by rfl)(hf:X.fn x=true∨X.env.scope.names.lookup x=some .local:=by first | exact .inl rfl | exact .inr rfl | assumption):
  PS X (.Assign [.Name x pos'] e pos) (j4 te (aV i)):=by
 intro pins s σ H D I h
 refine wpAny_Assign_Name (thn (he pins s σ H _ I h) fun v s1 ⟨y,H1,I1,r1,q1⟩=>?_) hs
 exact f6 I1 hN hi hx r1 (fun s2 I2=>⟨_,H1,I2,q1⟩) hf
inductive tParI(i:Nat)(j:Nat)(D:dn)(σ:St)(vs:List V)(H1:Hp):Prop where
 | mk:∀ v w,vs=[v,w]→D.nx ((σ.set i (some v)).set j (some w)) H1→tParI i j D σ vs H1
def Aq(i j:Nat)(ta:TA):TS:=fun D σ H=>ta σ H fun vs H1=>tParI i j D σ vs H1
theorem xN{i j:Nat}{x y:Str}{a b:Expr}{ta:TA}{px py pt:Pos}{kt k2 pt2}(hc:X.calm=true)(hN:X.N.Nodup)(hi:X.N[i]? = some x)(hj:X.N[j]? = some y)(hij:i≠j)
  (hx:X.env.scope.names.lookup x=some .local) (hy:X.env.scope.names.lookup y=some .local) (ha:PA X [a,b] ta)
  (hw:swappedStores [.Tuple [.Name x px,.Name y py] kt pt] (.Tuple [a,b] k2 pt2) X.env=pure (some [x,y]))
  (hs:swapsWithSole [.Tuple [.Name x px,.Name y py] kt pt] (.Tuple [a,b] k2 pt2) pos.line X.env=pure false:=by rfl) :
  PS X (.Assign [.Tuple [.Name x px,.Name y py] kt pt] (.Tuple [a,b] k2 pt2) pos) (Aq i j ta):=by
 intro pins s σ H D I h
 rw [exec_Assign_arm]
 refine wpAny_bind (wpAny_standAt ?_)
 rw [hs]
 refine wpAny_bind (wpAny_pure ?_)
 rw [if_neg (by decide)]
 refine wpAny_bind (Tuple_ (thn (ha _ pins s σ H _ I h) fun us s1 ⟨vs,H1,I1,r1,q1⟩=>?_))
 obtain⟨v,w,e1,q1⟩:=q1
 subst e1
 obtain⟨u1,u2,rfl,rv,rw'⟩:∃ u1 u2,us=[u1,u2]∧az v u1∧az w u2:=by
  cases r1 with
  | cons p q=>
   cases q with
   | cons p' q'=>
    cases q'
    exact⟨_,_,rfl,p,p'⟩
 refine wpAny_newObj_type ?_ (by show 2≤sizeLine; decide)
 have I2:Inv X pins σ H1 {s1 with heap:=s1.heap.push {cls:=.type "tuple",data:=.seq [u1,u2].toArray}}:=I1.kept (t':=s1.toks) fun b o e=>Heap.get?_push_of_some _ e
 rw [hw]
 refine wpAny_bind (wpAny_pure ?_)
 show wpAny (model X.prog X.w) X.A (do rule "assign.swapped-stores"; let items ← unpackItems (.ref s1.heap.objs.size) 2 none; assignInOrder [fun v=>bindName X.env y v,fun v=>bindName X.env x v] items.reverse; pure Flow.next) _ _ _
 refine wpAny_bind (wpAny_rule (wpAny_bind (unpackItems_tuple (items:=#[u1,u2]) (I.ok.hd hc) (IsTup.new s1.heap _) fun h' hx'=>?_)))
 have I3:=I2.kept (h':=h') (t':=s1.toks) fun b o e=>hx' b o (Nat.ne_of_lt (Heap.lt_size e)) e
 show wpAny _ _ (assignInOrder [fun v=>bindName X.env y v,fun v=>bindName X.env x v] [u2,u1]>>=fun _=>pure Flow.next) _ _ _
 refine wpAny_bind (assignInOrder_cons (wpAny_bindName (f6 I3 hN hj (.inl hy) rw' (fun s2 I4=>?_) (.inr hy))))
 refine assignInOrder_cons (wpAny_bindName (f6 I4 hN hi (.inl hx) rv (fun s3 I5=>assignInOrder_nil (wpAny_pure ?_)) (.inr hx)))
 rw [List.set_comm _ _ (Ne.symm hij)] at I5
 exact⟨_,H1,I5,q1⟩
def zb(to ti te:TE)(tget:V→V→Hp→VK→Prop)(tip:TIp)(tset:uR):TS:=fun D σ H=>to σ H fun o H1=>ti σ H1 fun i H2=>tget o i H2 fun x H3=>te σ H3 fun y H4=>tip x y H4 fun z H5=>tset o i z H5 fun H6=>D.nx σ H6
def Af(X:Cx)(t:V→V→Hp→VK→Prop):Prop:=
 ∀ (pins:List (Addr×Obj)) (s:Shared) (σ:St) (H:Hp) (o i:V) (ov iv:Value) (Q:VK),Inv X pins σ H s→az o ov→az i iv→t o i H Q→
  wpAny (model X.prog X.w) X.A (getItem ov iv) (EP X pins σ Q) X.xe s
theorem vt{o i e:Expr}{to ti te:TE}{tget:V→V→Hp→VK→Prop}{tip:TIp}{tset:uR}{op:Operator}{tpos:Pos}(ho:PE X o to)(hi:PE X i ti)(hg:Af X tget)(he:PE X e te)(hp:PIp X op tip)(hs:yV X tset)
  (ha:∀ ov iv new,augStore i ov iv new=(do holding [new,ov,iv] (setItem ov iv new); release [new,ov,iv] []; pure .next):=by intros; rfl):PS X (.AugAssign (.Subscript o i tpos) op e pos) (zb to ti te tget tip tset):=by
 intro pins s σ H D I h
 refine wpAny_AugAssign_SubscriptAny (thn (ho pins s σ H _ I h) fun ov s1 ⟨x1,H1,I1,r1,q1⟩=>?_) ha
 refine thn (hi pins s1 σ H1 _ I1 q1) fun iv s2 ⟨x2,H2,I2,r2,q2⟩=>?_
 refine thn (hg pins s2 σ H2 x1 x2 ov iv _ I2 r1 r2 q2) fun old s3 ⟨x3,H3,I3,r3,q3⟩=>?_
 refine thn (he pins s3 σ H3 _ I3 q3) fun v s4 ⟨x4,H4,I4,r4,q4⟩=>?_
 refine thn (hp pins s4 σ H4 x3 x4 old v _ I4 r3 r4 q4) fun new s5 ⟨x5,H5,I5,r5,q5⟩=>?_
 exact thn (hs pins s5 σ H5 x1 x2 x5 ov iv new _ I5 r1 r2 r5 q5) fun _ s6 ⟨H6,I6,q6⟩=>⟨σ,H6,I6,q6⟩
inductive ipII(f:Int→Int→Int)(x:V)(y:V)(H:Hp)(Q:VK):Prop where
 | mk:∀ i j,x=.int i→y=.int j→Q (.int (f i j)) H→ipII f x y H Q
def ipI(f:Int→Int→Int):TIp:=fun x y H Q=>ipII f x y H Q
theorem yE:PIp X .Sub (ipI fun i j=>i-j):=by
 intro pins s σ H x y v u Q I r1 r2 h
 obtain⟨i,j,e1,e2,q⟩:=h
 subst e1; subst e2
 obtain⟨t,rfl⟩:=r1
 obtain⟨t',rfl⟩:=r2
 exact isub_int ⟨.int _,H,I.tok _,⟨_,rfl⟩,q⟩
end
section
variable{X:Cx}{pos:Pos}
def xE(c:TT)(tb:TS):TS:=fun D σ H=>∃ W:Nat→St→Hp→Prop,(∃ m,W m σ H)∧∀ m σ H,W m σ H→
 c σ H fun b H1=>if b=true then ∃ N:St→Hp→Prop,(∀ σ' H',N σ' H'→∃ m',m'<m∧W m' σ' H')∧tb {D with nx:=N,ct:=N,bk:=D.nx} σ H1 else D.nx σ H1
theorem sU{c:Expr}{body:List Stmt}{tc:TT}{tb:TS}(hp:PassesOwn (model X.prog X.w) X.A X.env X.xe)(hc:PT X c tc)(hb:PSs X body tb):PS X (.While c body [] pos) (xE tc tb):=by
 intro pins s σ H D I h
 obtain⟨W,⟨m0,w0⟩,turn⟩:=h
 refine wpAny_While (codeAny_whileLoop (fun n s'=>∃ σ' H',Inv X pins σ' H' s'∧W n σ' H') ?_ m0 ⟨σ,H,I,w0⟩)
 rintro n s1 ⟨σ1,H1,I1,w1⟩
 refine wpAny_passesOwn hp (thn (hc pins s1 σ1 H1 _ I1 (turn n σ1 H1 w1)) fun b s2 ⟨H2,I2,q2⟩=>?_)
 cases b with
 | true=>
  obtain⟨N,hN,q2⟩:=q2
  rw [if_pos rfl]
  refine wpAny_passesOwn hp (thn (hb pins s2 σ1 H2 _ I2 q2) fun f s3 q3=>?_)
  cases f with
  | next=>
   obtain⟨σ3,H3,I3,n3⟩:=q3
   obtain⟨m',hm,w3⟩:=hN σ3 H3 n3
   exact⟨m',hm,σ3,H3,I3,w3⟩
  | cont=>
   obtain⟨σ3,H3,I3,n3⟩:=q3
   obtain⟨m',hm,w3⟩:=hN σ3 H3 n3
   exact⟨m',hm,σ3,H3,I3,w3⟩
  | brk=>exact q3
  | ret v=>exact q3
 | false=>
  rw [if_neg Bool.false_ne_true]
  exact wpAny_execs_nil ⟨σ1,H2,I2,q2⟩
end
structure It where
 go:Nat→Hp→Prop
 yld:Nat→Hp→V→Hp→Prop
 stop:Nat→Hp→Prop
def dS(X:Cx)(pins:List (Addr×Obj))(H:Hp)(b:Addr):Prop:=
 H b=none∧b≠X.env.locals∧b∉X.fs∧(b∈X.ex∨X.s₀.heap.objs.size≤b)∧(∀ x c,X.env.cells.lookup x=some c→c≠b)∧∀ p∈X.pn++pins,p.1≠b
theorem Inv.fpOk{X:Cx}{pins:List (Addr×Obj)}{σ:St}{H H':Hp}{s:Shared}{b:Addr}(I:Inv X pins σ H s)(hb:s.heap.objs.size≤b)(hn:H' b=none):dS X pins H' b:=by
 refine⟨hn,Nat.ne_of_gt (Nat.lt_of_lt_of_le I.lt hb),I.nofs hb,.inr (Nat.le_trans I.sz hb),fun x c e z=>?_,fun p hp z=>?_⟩
 ·obtain⟨v,q⟩:=I.cell x c e
  exact absurd (Nat.lt_of_lt_of_le q.lt (by rw [z]; exact hb)) (Nat.lt_irrefl _)
 ·exact absurd (Nat.lt_of_lt_of_le (Heap.lt_size (I.pin p hp).1) (by rw [z]; exact hb)) (Nat.lt_irrefl _)
structure ic(P:Program)(w:World)(K:PySem.W.Frag)(tg:Expr)(J:It)(fp:List Addr)(it:Addr)(tn:Nat→Heap→Prop):Prop where
 mem:it∈fp
 obj:∀ i h,tn i h→∀ b∈fp,∃ o,h.get? b=some o∧∀ v,o.data≠.cell v
 keep:∀ i h h',tn i h→(∀ b∈fp,∀ o,h.get? b=some o→h'.get? b=some o)→tn i h'
 item:∀ (X:Cx),X.prog=P→X.w=w→X.K=K→X.calm=true→∀ (i:Nat) (pins:List (Addr×Obj)) (s:Shared) (σ:St) (H:Hp) (E:Value→Shared→Prop),Inv X pins σ H s→(∀ b∈fp,dS X pins H b)→tn i s.heap→J.go i H→
  wpAny (model P w) X.A (pyNext (.ref it)) (fun r s1=>∃ u,r=some u∧
   wpAny (model P w) X.A (letOwnedTupleGo tg (.ref it) u) (fun _ s2=>∃ x H',Inv X pins σ H' s2∧az x u∧J.yld i H x H'∧tn (i+1) s2.heap∧∀ b∈fp,H' b=none) E s1) E s
 done:∀ (X:Cx),X.prog=P→X.w=w→X.K=K→X.calm=true→∀ (i:Nat) (pins:List (Addr×Obj)) (s:Shared) (σ:St) (H:Hp) (E:Value→Shared→Prop),Inv X pins σ H s→(∀ b∈fp,dS X pins H b)→tn i s.heap→J.stop i H→
  wpAny (model P w) X.A (pyNext (.ref it)) (fun r s1=>r=none∧Inv X pins σ H s1) E s
 self:∀ (A:Around) (i:Nat) (s:Shared) (Q:Value→Shared→Prop) (E:Value→Shared→Prop),tn i s.heap→Q (.ref it) s→wpAny (model P w) A (pyIter (.ref it)) Q E s
abbrev TI:=St→Hp→(It→Hp→Prop)→Prop
def PIE(X:Cx)(pins:List (Addr×Obj))(σ:St)(tg:Expr)(R:It→Hp→Prop)(itv:Value)(s2:Shared):Prop:=
 ∃ (it:Addr) (fp:List Addr) (tn:Nat→Heap→Prop) (J:It) (H':Hp),itv=.ref it∧Inv X pins σ H' s2∧ic X.prog X.w X.K tg J fp it tn∧tn 0 s2.heap∧(∀ b∈fp,dS X pins H' b)∧R J H'
def PI(X:Cx)(tg iter:Expr)(wi:TI):Prop:=
 ∀ (pins:List (Addr×Obj)) (s:Shared) (σ:St) (H:Hp) (R:It→Hp→Prop),Inv X pins σ H s→wi σ H R→
  wpAny (model X.prog X.w) X.A (eval iter X.env) (fun v s1=>wpAny (model X.prog X.w) X.A (pyIter v) (PIE X pins σ tg R) X.xe s1) X.xe s
theorem pv{M:Model}{A:Around}{E:Value→Shared→Prop}{s:Shared}{tg:Expr}{it:Addr}{u:Value}{o:Obj}{n:String}{vs:Array Value}{Q:Unit→Shared→Prop}(ho:s.heap.get? it=some o)(hc:o.cls=.type n)(hd:o.data=.fields vs)
    (hn:["enumerate","zip","dict_itemiterator","dict_reverseitemiterator","odict_iterator","itertools.zip_longest","itertools.pairwise"].contains n=false) (hQ:Q () s):wpAny M A (letOwnedTupleGo tg (.ref it) u) Q E s:=by
  unfold letOwnedTupleGo
  cases tg <;> first
    | exact wpAny_pure hQ
    | (cases u <;> first
        | exact wpAny_pure hQ
        | (refine wpAny_bind (wpAny_load ho ?_)
           rw [hc,hd]
           show wpAny M A (if (["enumerate","zip","dict_itemiterator","dict_reverseitemiterator","odict_iterator","itertools.zip_longest","itertools.pairwise"].contains n&&vs[0]? == some (rawInt _))=true then _ else _) Q E s
           rw [if_neg (by intro h; rw [hn,Bool.false_and] at h; cases h)]
           exact wpAny_pure hQ))
def Itl(K:PySem.W.Frag)(a:Addr):It:=
 ⟨fun i H=>∃ xs x,SqL K H a xs∧xs[i]? = some x,fun i H x H'=>H'=H∧∀ xs,SqL K H a xs→xs[i]? = some x,fun i H=>∃ xs,SqL K H a xs∧xs.length≤i⟩
def Itt(K:PySem.W.Frag)(a:Addr):It:=
 ⟨fun i H=>∃ xs x,SqT K H a xs∧xs[i]? = some x,fun i H x H'=>H'=H∧∀ xs,SqT K H a xs→xs[i]? = some x,fun i H=>∃ xs,SqT K H a xs∧xs.length≤i⟩
def Itr(lo:Int)(n:Nat):It:=⟨fun i _=>i<n,fun i H x H'=>H'=H∧x=.int (lo+i),fun i _=>n≤i⟩
theorem jq{P:Program}{w:World}{K:PySem.W.Frag}{tg:Expr}(a it:Addr):ic P w K tg (Itl K a) [it] it (fun i h=>h.IsListIter it a i) where
 mem:=by simp
 obj:=fun i h st b hb=>by
  have e:b=it:=by simpa using hb
  subst e
  obtain⟨o,e,c,d⟩:=st
  exact⟨o,e,fun v z=>by rw [d] at z; cases z⟩
 keep:=fun i h h' st k=>st.at fun o e=>k it (by simp) o e
 item:=by
  intro X hP hw hK hc i pins s σ H E I hf st hg
  subst hP hw hK
  obtain⟨xs,x,hq,hx⟩:=hg
  obtain⟨its,rv,p,hz⟩:=I.list hq
  obtain⟨u,hu,ru⟩:=rv.get hx
  obtain⟨f0,f1,f2,f3,f4,f5⟩:=hf it (by simp)
  refine wpAny_pyNext_list_item st p.isList (x:=u) (by simpa using hu) fun h' st' sb=>?_
  have I1:Inv X pins σ H {s with heap:=h'}:=I.turned (t':=s.toks) (fun b o hb e=>(sb.2 b hb).trans e) f0 f1 f3 f4 f5
  obtain⟨o,e,c,d⟩:=id st'
  exact⟨u,rfl,pv (s:={s with heap:=h'}) e c d (by decide) ⟨x,H,I1,ru,⟨rfl,fun ys hy=>by rw [I.list_inj hy hq]; exact hx⟩,st',fun b hb=>(hf b hb).1⟩⟩
 done:=by
  intro X hP hw hK hc i pins s σ H E I hf st hg
  subst hP hw hK
  obtain⟨xs,hq,hx⟩:=hg
  obtain⟨its,rv,p,hz⟩:=I.list hq
  obtain⟨f0,f1,f2,f3,f4,f5⟩:=hf it (by simp)
  have hl:=rv.length
  exact wpAny_pyNext_list_end (I.ok.hd hc) st p.isList (by simp; omega) fun h' eb=>⟨rfl,I.turned (t':=s.toks) (fun b o hb e=>eb b o hb e) f0 f1 f3 f4 f5⟩
 self:=fun _ _ _ _ _ st h=>wpAny_pyIter_listiter st h
theorem mW{P:Program}{w:World}{K:PySem.W.Frag}{tg:Expr}(a it:Addr):ic P w K tg (Itt K a) [it] it (fun i h=>h.IsTupleIter it a i) where
 mem:=by simp
 obj:=fun i h st b hb=>by
  have e:b=it:=by simpa using hb
  subst e
  obtain⟨o,e,c,d⟩:=st
  exact⟨o,e,fun v z=>by rw [d] at z; cases z⟩
 keep:=fun i h h' st k=>st.at fun o e=>k it (by simp) o e
 item:=by
  intro X hP hw hK hc i pins s σ H E I hf st hg
  subst hP hw hK
  obtain⟨xs,x,hq,hx⟩:=hg
  obtain⟨its,rv,p,hz⟩:=I.tuple hq
  obtain⟨u,hu,ru⟩:=rv.get hx
  obtain⟨f0,f1,f2,f3,f4,f5⟩:=hf it (by simp)
  refine wpAny_pyNext_tuple_item st (show s.heap.IsTuple a its.toArray from p) (x:=u) (by simpa using hu) fun h' st' sb=>?_
  have I1:Inv X pins σ H {s with heap:=h'}:=I.turned (t':=s.toks) (fun b o hb e=>(sb.2 b hb).trans e) f0 f1 f3 f4 f5
  obtain⟨o,e,c,d⟩:=id st'
  exact⟨u,rfl,pv (s:={s with heap:=h'}) e c d (by decide) ⟨x,H,I1,ru,⟨rfl,fun ys hy=>by rw [I.tuple_inj hy hq]; exact hx⟩,st',fun b hb=>(hf b hb).1⟩⟩
 done:=by
  intro X hP hw hK hc i pins s σ H E I hf st hg
  subst hP hw hK
  obtain⟨xs,hq,hx⟩:=hg
  obtain⟨its,rv,p,hz⟩:=I.tuple hq
  obtain⟨f0,f1,f2,f3,f4,f5⟩:=hf it (by simp)
  have hl:=rv.length
  exact wpAny_pyNext_tuple_end (I.ok.hd hc) st (show s.heap.IsTuple a its.toArray from p) (by simp; omega) fun h' eb=>⟨rfl,I.turned (t':=s.toks) (fun b o hb e=>eb b o hb e) f0 f1 f3 f4 f5⟩
 self:=fun _ _ _ _ _ st h=>wpAny_pyIter_tupleiter st h
theorem mX{P:Program}{w:World}{K:PySem.W.Frag}{tg:Expr}(it:Addr)(lo:Int)(n:Nat):ic P w K tg (Itr lo n) [it] it (fun i h=>IsRangeIter h it (lo+(i:Nat)*1) ((n:Int) - (i:Nat)) 1) where
 mem:=by simp
 obj:=fun i h st b hb=>by
  have e:b=it:=by simpa using hb
  subst e
  exact⟨_,st,fun v z=>by
   have z':Data.fields _=Data.cell v:=z
   cases z'⟩
 keep:=fun i h h' st k=>k it (by simp) _ st
 item:=by
  intro X hP hw hK hc i pins s σ H E I hf st hg
  subst hP hw hK
  obtain⟨f0,f1,f2,f3,f4,f5⟩:=hf it (by simp)
  have W:=Walks.range (prog:=X.prog) (w:=X.w) (I.ok.hd hc) it lo 1 n
  refine W.item i s _ _ hg st fun v h' tk hv st' kk=>?_
  obtain⟨t,rfl⟩:=hv
  have I1:Inv X pins σ H {s with heap:=h',toks:=tk}:=I.turned (fun b o hb e=>kk b o (by simpa using hb) e) f0 f1 f3 f4 f5
  refine⟨_,rfl,pv (s:={s with heap:=h',toks:=tk}) (n:="range_iterator") st' rfl rfl (by decide) ⟨.int (lo+i),H,I1,⟨t,?_⟩,⟨rfl,rfl⟩,st',fun b hb=>(hf b hb).1⟩⟩
  rw [Int.mul_one]
 done:=by
  intro X hP hw hK hc i pins s σ H E I hf st hg
  subst hP hw hK
  obtain⟨f0,f1,f2,f3,f4,f5⟩:=hf it (by simp)
  exact wpAny_pyNext_range_end (I.ok.hd hc) st (by have : n≤i:=hg; omega) fun h' eb=>⟨rfl,I.turned (t':=s.toks) (fun b o hb e=>eb b o hb e) f0 f1 f3 f4 f5⟩
 self:=fun _ _ _ _ _ st h=>wpAny_pyIter_rangeiter st h
section
variable{X:Cx}{tg:Expr}
inductive iListI(K:PySem.W.Frag)(R:(It→Hp→Prop))(x:V)(H1:Hp):Prop where
 | mk:∀ a,x=.ref a→((∃ xs,SqL K H1 a xs))→R (Itl K a) H1→iListI K R x H1
def xx(K:PySem.W.Frag)(tl:TE):TI:=fun σ H R=>tl σ H fun x H1=>iListI K R x H1
inductive iTupI(K:PySem.W.Frag)(R:(It→Hp→Prop))(x:V)(H1:Hp):Prop where
 | mk:∀ a,x=.ref a→((∃ xs,SqT K H1 a xs))→R (Itt K a) H1→iTupI K R x H1
def zN(K:PySem.W.Frag)(tl:TE):TI:=fun σ H R=>tl σ H fun x H1=>iTupI K R x H1
theorem o7{l:Expr}{tl:TE}(hl:PE X l tl):PI X tg l (xx X.K tl):=by
 intro pins s σ H R I h
 refine thn (hl pins s σ H _ I h) fun v s1 ⟨x,H1,I1,r1,q1⟩=>?_
 obtain⟨a,e,⟨xs,hq⟩,q⟩:=q1
 subst e
 cases r1
 obtain⟨its,rv,p,hz⟩:=I1.list hq
 refine wpAny_pyIter_list p.isList ?_
 refine⟨s1.heap.objs.size,[s1.heap.objs.size],_,_,H1,rfl,I1.kept (t':=s1.toks) fun b o e=>Heap.get?_push_of_some _ e,jq a _,⟨_,Heap.get?_push_size _ rfl,rfl,rfl⟩,fun b hb=>?_,q⟩
 have e:b=s1.heap.objs.size:=by simpa using hb
 subst e
 exact I1.fpOk (Nat.le_refl _) (I1.hok.fresh (Nat.le_refl _))
theorem sX{l:Expr}{tl:TE}(hl:PE X l tl):PI X tg l (zN X.K tl):=by
 intro pins s σ H R I h
 refine thn (hl pins s σ H _ I h) fun v s1 ⟨x,H1,I1,r1,q1⟩=>?_
 obtain⟨a,e,⟨xs,hq⟩,q⟩:=q1
 subst e
 cases r1
 obtain⟨its,rv,p,hz⟩:=I1.tuple hq
 refine wpAny_pyIter_tuple (show s1.heap.IsTuple a its.toArray from p) ?_
 refine⟨s1.heap.objs.size,[s1.heap.objs.size],_,_,H1,rfl,I1.kept (t':=s1.toks) fun b o e=>Heap.get?_push_of_some _ e,mW a _,⟨_,Heap.get?_push_size _ rfl,rfl,rfl⟩,fun b hb=>?_,q⟩
 have e:b=s1.heap.objs.size:=by simpa using hb
 subst e
 exact I1.fpOk (Nat.le_refl _) (I1.hok.fresh (Nat.le_refl _))
theorem sN{pins:List (Addr×Obj)}{σ:St}{H:Hp}{s:Shared}{R:It→Hp→Prop}{E:Value→Shared→Prop}{lo hi:Int}{t u v:Tok}{tk:Nat}(I:Inv X pins σ H s)(h1:-(2 ^ 62)≤lo)(h2:lo<2 ^ 62)(h3:-(2 ^ 62)≤hi)(h4:hi<2 ^ 62)
  (q:R (Itr lo (hi-lo).toNat) H):wpAny (model X.prog X.w) X.A (pyIter (.ref s.heap.objs.size)) (PIE X pins σ tg R) E {s with heap:=s.heap.push {cls:=.type "range",data:=.fields #[.int lo t,.int hi u,.int 1 v]},toks:=tk}:=by
 refine wpAny_pyIter_range (IsRange.new ..) (small_one h1 h2 h3 h4) ?_
 have I1:Inv X pins σ H {s with heap:=s.heap.push {cls:=.type "range",data:=.fields #[.int lo t,.int hi u,.int 1 v]},toks:=tk}:=I.kept fun b o e=>Heap.get?_push_of_some _ e
 refine⟨(s.heap.push {cls:=.type "range",data:=.fields #[.int lo t,.int hi u,.int 1 v]}).objs.size,[(s.heap.push {cls:=.type "range",data:=.fields #[.int lo t,.int hi u,.int 1 v]}).objs.size],_,_,H,rfl,
  I1.kept (t':=tk) fun b o e=>Heap.get?_push_of_some _ e,mX _ lo (hi-lo).toNat,?_,fun b hb=>?_,q⟩
 ·have e1:lo+((0:Nat):Int)*1=lo:=by simp
  have e2:(((hi-lo).toNat:Nat):Int) - ((0:Nat):Int)=Builtin.Range.rangeSize lo hi 1:=by rw [rangeSize_one]; split <;> omega
  show IsRangeIter _ _ (lo+((0:Nat):Int)*1) ((((hi-lo).toNat:Nat):Int) - ((0:Nat):Int)) 1
  rw [e1,e2]
  exact Heap.get?_push_size _ rfl
 ·have e:b=(s.heap.push {cls:=.type "range",data:=.fields #[.int lo t,.int hi u,.int 1 v]}).objs.size:=by simpa using hb
  subst e
  exact I1.fpOk (Nat.le_refl _) (I1.hok.fresh (Nat.le_refl _))
inductive iRng1I(R:(It→Hp→Prop))(vs:List V)(H1:Hp):Prop where
 | mk:∀ j:Int,vs=[.int j]→-(2 ^ 62)≤j→j<2 ^ 62→R (Itr 0 j.toNat) H1→iRng1I R vs H1
def xw(ta:TA):TI:=fun σ H R=>ta σ H fun vs H1=>iRng1I R vs H1
theorem qc{a:Expr}{ta:TA}{p pos:Pos}(hg:Gl X "range")(hm:X.mg "range"=none)(ha:PA X [a] ta)(hs:starEach [a] X.env=[(false,eval a X.env)]:=by rfl):PI X tg (.Call (.Name "range" p) [a] [] pos) (xw ta):=by
 intro pins s σ H R I h
 refine Call_ (fH I hg hm boot_range (PyProof.Rows.callWith_type1 (thn (ha pos pins s σ H _ I h) fun us s1 ⟨vs,H1,I1,r1,q1⟩=>?_) hs rfl))
 obtain⟨j,e,q1,q2,q⟩:=q1
 subst e
 cases r1 with
 | cons r rr=>
  cases rr
  obtain⟨t,rfl⟩:=r
  exact call_range_1 (sN I1 (by omega) (by omega) q1 q2 (by simpa using q))
def y8(wi:TI)(g:TG)(tb:TS):TS:=fun D σ H=>wi σ H fun J H1=>∃ W:Nat→Nat→St→Hp→Prop,(∃ m,W 0 m σ H1)∧∀ i m σ H,W i m σ H→
 (J.stop i H∧D.nx σ H)∨(J.go i H∧∃ N:St→Hp→Prop,(∀ σ' H',N σ' H'→∃ m',m'<m∧W (i+1) m' σ' H')∧∀ x H',J.yld i H x H'→g x σ H' fun σ2 H2=>tb {D with nx:=N,ct:=N,bk:=D.nx} σ2 H2)
def bW(fp:List Addr)(h:Heap):List (Addr×Obj):=fp.filterMap fun b=>(h.get? b).map fun o=>(b,o)
theorem aP{fp:List Addr}{h:Heap}{b:Addr}{o:Obj}(hb:b∈fp)(e:h.get? b=some o):(b,o)∈bW fp h:=List.mem_filterMap.mpr ⟨b,hb,by rw [e]; rfl⟩
theorem eL{fp:List Addr}{h:Heap}{p:Addr×Obj}(hp:p∈bW fp h):p.1∈fp∧h.get? p.1=some p.2:=by
 obtain⟨b,hb,e⟩:=List.mem_filterMap.mp hp
 cases q:h.get? b with
 | none=>rw [q] at e; cases e
 | some o=>
  rw [q] at e
  have e':(b,o)=p:=Option.some.inj e
  subst e'
  exact⟨hb,q⟩
theorem Inv.pinned{pins:List (Addr×Obj)}{σ:St}{H:Hp}{s:Shared}{fp:List Addr}(I:Inv X pins σ H s)(hf:∀ b∈fp,dS X pins H b)(ho:∀ b∈fp,∃ o,s.heap.get? b=some o∧∀ v,o.data≠.cell v):Inv X (pins++bW fp s.heap) σ H s:=
 I.pins_of fun p hp=>(List.mem_append.mp hp).elim (fun z=>I.pin p (List.mem_append_right _ z)) fun z=>by
  obtain⟨hb,e⟩:=eL z
  obtain⟨f0,f1,f2,_⟩:=hf p.1 hb
  obtain⟨o,e',d⟩:=ho p.1 hb
  rw [e] at e'; cases e'
  exact⟨e,f0,f1,f2,d⟩
theorem Inv.unpinned{pins pl:List (Addr×Obj)}{σ:St}{H:Hp}{s:Shared}(I:Inv X (pins++pl) σ H s):Inv X pins σ H s:=I.pins_of fun p hp=>I.pin p (List.mem_append_right _ (List.mem_append_left _ hp))
theorem xP{iter:Expr}{body:List Stmt}{wi:TI}{g:TG}{tb:TS}{pos:Pos}(hp:PassesOwn (model X.prog X.w) X.A X.env X.xe)(hc:X.calm=true)(hi:PI X tg iter wi)(hg:PG X tg g)(hb:PSs X body tb)
  (hs:∀ x,foldedSetIterable iter X.env x=pure x:=by intro _; rfl):PS X (.For tg iter body [] pos) (y8 wi g tb):=by
 intro pins s σ H D I h
 refine wpAny_For (thn (hi pins s σ H _ I h) fun v s1 h1=>thn h1 fun itv s2 h2=>?_) hs
 obtain⟨it,fp,tn,J,H2,e,I2,T,st2,f2,W,⟨m0,w0⟩,turn⟩:=h2
 subst e
 have stat:∀ {H':Hp},(∀ b∈fp,H' b=none)→∀ b∈fp,dS X pins H' b:=fun hn b hb=>⟨hn b hb,(f2 b hb).2⟩
 refine codeAny_forLoop_any (fun n s'=>∃ i σ' H',Inv X pins σ' H' s'∧tn i s'.heap∧(∀ b∈fp,H' b=none)∧W i n σ' H') ?_ m0 ⟨0,σ,H2,I2,st2,fun b hb=>(f2 b hb).1,w0⟩
 rintro n s3 ⟨i,σ3,H3,I3,st3,fr3,w3⟩
 rcases turn i n σ3 H3 w3 with ⟨stop,qn⟩ | ⟨go,N,hN,step⟩
 ·refine wpAny_passesOwn hp (thn (T.done X rfl rfl rfl hc i pins s3 σ3 H3 X.xe I3 (stat fr3) st3 stop) fun r s4 ⟨hr,I4⟩=>?_)
  subst hr
  exact wpAny_execs_nil ⟨σ3,H3,I4,qn⟩
 ·refine wpAny_passesOwn hp (thn (T.item X rfl rfl rfl hc i pins s3 σ3 H3 X.xe I3 (stat fr3) st3 go) fun r s4 ⟨u,hr,h4⟩=>?_)
  subst hr
  refine wpAny_passesOwn hp (thn h4 fun _ s5 ⟨x,H5,I5,r5,y5,st5,fr5⟩=>?_)
  have I5':=I5.pinned (stat fr5) (T.obj _ _ st5)
  refine wpAny_passesOwn hp (thn (hg _ s5 σ3 H5 x u _ I5' r5 (step x H5 y5)) fun _ s6 ⟨σ6,H6,I6,q6⟩=>?_)
  refine wpAny_passesOwn hp (thn (hb _ s6 σ6 H6 _ I6 q6) fun f s7 q7=>?_)
  have again:∀ {σ7:St} {H7:Hp},Inv X (pins++bW fp s5.heap) σ7 H7 s7→N σ7 H7→∃ m,m<n∧∃ i σ' H',Inv X pins σ' H' s7∧tn i s7.heap∧(∀ b∈fp,H' b=none)∧W i m σ' H':=fun {σ7 H7} I7 n7=>by
   obtain⟨m',hm,w7⟩:=hN σ7 H7 n7
   refine⟨m',hm,i+1,σ7,H7,I7.unpinned,T.keep _ _ _ st5 fun b hb o e=>(I7.pin (b,o) (List.mem_append_right _ (List.mem_append_right _ (aP hb e)))).1,fun b hb=>?_,w7⟩
   obtain⟨o,e,d⟩:=T.obj _ _ st5 b hb
   exact(I7.pin (b,o) (List.mem_append_right _ (List.mem_append_right _ (aP hb e)))).2.1
  cases f with
  | next=>obtain⟨σ7,H7,I7,n7⟩:=q7; exact again I7 n7
  | cont=>obtain⟨σ7,H7,I7,n7⟩:=q7; exact again I7 n7
  | brk=>obtain⟨σ7,H7,I7,q7⟩:=q7; exact⟨σ7,H7,I7.unpinned,q7⟩
  | ret v=>obtain⟨x7,σ7,H7,I7,r7,q7⟩:=q7; exact⟨x7,σ7,H7,I7.unpinned,r7,q7⟩
end
theorem dC{K:PySem.W.Frag}{a:Addr}{xs:List V}{g:TG}{tb:TS}{D:dn}{σ:St}{H:Hp}(Pv:Nat→St→Hp→Prop)(h0:Pv 0 σ H)(hl:∀ i σ H,i≤xs.length→Pv i σ H→SqL K H a xs)
  (hs:∀ i x σ H,xs[i]? = some x→Pv i σ H→g x σ H fun σ2 H2=>tb {D with nx:=Pv (i+1),ct:=Pv (i+1),bk:=D.nx} σ2 H2) (hd:∀ σ H,Pv xs.length σ H→D.nx σ H) :
  ∃ W:Nat→Nat→St→Hp→Prop,(∃ m,W 0 m σ H)∧∀ i m σ H,W i m σ H→
   ((Itl K a).stop i H∧D.nx σ H)∨((Itl K a).go i H∧∃ N:St→Hp→Prop,(∀ σ' H',N σ' H'→∃ m',m'<m∧W (i+1) m' σ' H')∧∀ x H',(Itl K a).yld i H x H'→g x σ H' fun σ2 H2=>tb {D with nx:=N,ct:=N,bk:=D.nx} σ2 H2):=by
 refine⟨fun i m σ H=>m=xs.length-i∧i≤xs.length∧Pv i σ H,⟨xs.length,by simp,Nat.zero_le _,h0⟩,?_⟩
 rintro i m σ H ⟨rfl,hi,p⟩
 have q:=hl i σ H hi p
 by_cases hlt:i<xs.length
 ·refine .inr ⟨⟨xs,xs[i],q,by simp [hlt]⟩,Pv (i+1),fun σ' H' p'=>⟨xs.length - (i+1),by omega,rfl,hlt,p'⟩,fun x H' y=>?_⟩
  obtain⟨e,y⟩:=y
  subst e
  exact hs i x σ _ (y xs q) p
 ·have e:i=xs.length:=by omega
  subst e
  exact .inl ⟨⟨xs,q,Nat.le_refl _⟩,hd σ H p⟩
theorem qM{lo:Int}{n:Nat}{g:TG}{tb:TS}{D:dn}{σ:St}{H:Hp}(Pv:Nat→St→Hp→Prop)(h0:Pv 0 σ H)
  (hs:∀ i σ H,i<n→Pv i σ H→g (.int (lo+i)) σ H fun σ2 H2=>tb {D with nx:=Pv (i+1),ct:=Pv (i+1),bk:=D.nx} σ2 H2) (hd:∀ σ H,Pv n σ H→D.nx σ H) :
  ∃ W:Nat→Nat→St→Hp→Prop,(∃ m,W 0 m σ H)∧∀ i m σ H,W i m σ H→
   ((Itr lo n).stop i H∧D.nx σ H)∨((Itr lo n).go i H∧∃ N:St→Hp→Prop,(∀ σ' H',N σ' H'→∃ m',m'<m∧W (i+1) m' σ' H')∧∀ x H',(Itr lo n).yld i H x H'→g x σ H' fun σ2 H2=>tb {D with nx:=N,ct:=N,bk:=D.nx} σ2 H2):=by
 refine⟨fun i m σ H=>m=n-i∧i≤n∧Pv i σ H,⟨n,by simp,Nat.zero_le _,h0⟩,?_⟩
 rintro i m σ H ⟨rfl,hi,p⟩
 by_cases hlt:i<n
 ·refine .inr ⟨hlt,Pv (i+1),fun σ' H' p'=>⟨n - (i+1),by omega,rfl,hlt,p'⟩,fun x H' y=>?_⟩
  obtain⟨e,y⟩:=y
  subst e y
  exact hs i σ _ hlt p
 ·have e:i=n:=by omega
  subst e
  exact .inl ⟨Nat.le_refl _,hd σ H p⟩
abbrev R2:=V→V→Hp→VK→Prop
def OpR(X:Cx)(f:Value→Value→Sem Value)(r:R2):Prop:=
 ∀ (pins:List (Addr×Obj)) (s:Shared) (σ:St) (H:Hp) (x y:V) (v u:Value) (Q:VK),Inv X pins σ H s→az x v→az y u→r x y H Q→
  wpAny (model X.prog X.w) X.A (f v u) (EP X pins σ Q) X.xe s
def UnR(X:Cx)(f:Value→Sem Value)(r:V→Hp→VK→Prop):Prop:=
 ∀ (pins:List (Addr×Obj)) (s:Shared) (σ:St) (H:Hp) (x:V) (v:Value) (Q:VK),Inv X pins σ H s→az x v→r x H Q→
  wpAny (model X.prog X.w) X.A (f v) (EP X pins σ Q) X.xe s
def cv(X:Cx)(f:Value)(r:List V→Hp→VK→Prop):Prop:=
 ∀ (pins:List (Addr×Obj)) (s:Shared) (σ:St) (H:Hp) (xs:List V) (us:List Value) (Q:VK),Inv X pins σ H s→aw xs us→r xs H Q→
  wpAny (model X.prog X.w) X.A (call f us) (EP X pins σ Q) X.xe s
def A5(X:Cx)(r:V→Hp→(Bool→Hp→Prop)→Prop):Prop:=
 ∀ (pins:List (Addr×Obj)) (s:Shared) (σ:St) (H:Hp) (x:V) (v:Value) (Q:Bool→Hp→Prop),Inv X pins σ H s→az x v→r x H Q→
  wpAny (model X.prog X.w) X.A (truthy v) (TP X pins σ Q) X.xe s
def tOp(r:R2)(ta tb:TE):TE:=fun σ H Q=>ta σ H fun x H1=>tb σ H1 fun y H2=>r x y H2 Q
def tUn(r:V→Hp→VK→Prop)(ta:TE):TE:=fun σ H Q=>ta σ H fun x H1=>r x H1 Q
inductive rII(C:Int→Int→Prop)(g:Int→Int→V)(x:V)(y:V)(H:Hp)(Q:VK):Prop where
 | mk:∀ i j,x=.int i→y=.int j→C i j→Q (g i j) H→rII C g x y H Q
def rI(C:Int→Int→Prop)(g:Int→Int→V):R2:=fun x y H Q=>rII C g x y H Q
inductive rI0I(g:Int→Int→V)(x:V)(y:V)(H:Hp)(Q:VK):Prop where
 | mk:∀ i j,x=.int i→y=.int j→Q (g i j) H→rI0I g x y H Q
def rI0(g:Int→Int→V):R2:=fun x y H Q=>rI0I g x y H Q
inductive rUI(g:Int→V)(x:V)(H:Hp)(Q:VK):Prop where
 | mk:∀ i,x=.int i→Q (g i) H→rUI g x H Q
def rU(g:Int→V):V→Hp→VK→Prop:=fun x H Q=>rUI g x H Q
section
variable{X:Cx}{a b c:Expr}{ta tb tc:TE}{pos:Pos}
theorem yS(ha:PE X a ta)(hb:PE X b tb){pins:List (Addr×Obj)}{s:Shared}{σ:St}{H:Hp}{R:V→V→Hp→Prop}(I:Inv X pins σ H s)
  (h:ta σ H fun x H1=>tb σ H1 fun y H2=>R x y H2) {Q:Value→Shared→Prop} {f:Value→Value→Sem Value}
  (hf:∀ v u s2 x y H2,Inv X pins σ H2 s2→az x v→az y u→R x y H2→wpAny (model X.prog X.w) X.A (f v u) Q X.xe s2) :
  wpAny (model X.prog X.w) X.A (eval a X.env) (fun v s₁=>wpAny (model X.prog X.w) X.A (eval b X.env) (fun u s₂=>wpAny (model X.prog X.w) X.A (f v u) Q X.xe s₂) X.xe s₁) X.xe s:=by
 refine thn (ha pins s σ H _ I h) fun v s1 ⟨x,H1,I1,r1,q1⟩=>?_
 refine thn (hb pins s1 σ H1 _ I1 q1) fun u s2 ⟨y,H2,I2,r2,q2⟩=>?_
 exact hf v u s2 x y H2 I2 r1 r2 q2
theorem lL{op:Operator}{r:R2}(ho:OpR X (binaryOp op) r)(ha:PE X a ta)(hb:PE X b tb):PE X (.BinOp a op b pos) (tOp r ta tb):=by
 intro pins s σ H Q I h
 exact wpAny_BinOp (yS ha hb I h fun v u s2 x y H2 I2 rx ry q=>ho pins s2 σ H2 x y v u Q I2 rx ry q)
theorem tq{op:UnaryOp}{r:V→Hp→VK→Prop}(ho:UnR X (unaryOp op) r)(ha:PE X a ta):PE X (.UnaryOp op a pos) (tUn r ta):=by
 intro pins s σ H Q I h
 exact UnaryOp_ (thn (ha pins s σ H _ I h) fun v s1 ⟨x,H1,I1,r1,q1⟩=>ho pins s1 σ H1 x v Q I1 r1 q1)
theorem opI{f:Value→Value→Sem Value}{C:Int→Int→Prop}{g:Int→Int→Int}
  (rule:∀ (i j:Int) (t u:Tok) (s:Shared) (Q:Value→Shared→Prop) (E:Value→Shared→Prop),C i j→Q (.int (g i j) s.toks) {s with toks:=s.toks+1}→wpAny (model X.prog X.w) X.A (f (.int i t) (.int j u)) Q E s) :
  OpR X f (rI C fun i j=>.int (g i j)):=by
 intro pins s σ H x y v u Q I rx ry h
 obtain⟨i,j,rfl,rfl,hc,q⟩:=h
 obtain⟨t,rfl⟩:=rx
 obtain⟨t',rfl⟩:=ry
 exact rule i j t t' s _ _ hc ⟨.int (g i j),H,I.tok _,⟨_,rfl⟩,q⟩
theorem zx{f:Value→Value→Sem Value}{g:Int→Int→Int}
  (rule:∀ (i j:Int) (t u:Tok) (s:Shared) (Q:Value→Shared→Prop) (E:Value→Shared→Prop),Q (.int (g i j) s.toks) {s with toks:=s.toks+1}→wpAny (model X.prog X.w) X.A (f (.int i t) (.int j u)) Q E s) :
  OpR X f (rI0 fun i j=>.int (g i j)):=by
 intro pins s σ H x y v u Q I rx ry h
 obtain⟨i,j,rfl,rfl,q⟩:=h
 obtain⟨t,rfl⟩:=rx
 obtain⟨t',rfl⟩:=ry
 exact rule i j t t' s _ _ ⟨.int (g i j),H,I.tok _,⟨_,rfl⟩,q⟩
theorem yj{f:Value→Value→Sem Value}{g:Int→Int→Bool}
  (rule:∀ (i j:Int) (t u:Tok) (s:Shared) (Q:Value→Shared→Prop) (E:Value→Shared→Prop),Q (.bool (g i j)) s→wpAny (model X.prog X.w) X.A (f (.int i t) (.int j u)) Q E s) :
  OpR X f (rI0 fun i j=>.bl (g i j)):=by
 intro pins s σ H x y v u Q I rx ry h
 obtain⟨i,j,rfl,rfl,q⟩:=h
 obtain⟨t,rfl⟩:=rx
 obtain⟨t',rfl⟩:=ry
 exact rule i j t t' s _ _ ⟨.bl (g i j),H,I,rfl,q⟩
def Ah(i j:Int):Prop:=0<j∧j<1073741824
def A7(i j:Int):Prop:=0≤j∧j≤1000000∧i.natAbs<2 ^ 64
def yX(i j:Int):Prop:=(-(2 ^ 64)<i∧i<2 ^ 64)∨(-(2 ^ 64)<j∧j<2 ^ 64)
theorem yX.ok{i j:Int}(h:yX i j):IntMulOk i j:=by
 rcases h with ⟨h1,h2⟩ | ⟨h1,h2⟩
 ·exact .of_left (intBits_le_64 h1 h2)
 ·exact .of_right (intBits_le_64 h1 h2)
theorem yi:OpR X (binaryOp .Add) (rI0 fun i j=>.int (i+j)):=zx fun _ _ _ _ _ _ _ q=>add_int q
theorem yc:OpR X (binaryOp .Sub) (rI0 fun i j=>.int (i-j)):=zx fun _ _ _ _ _ _ _ q=>sub_int q
theorem yf:OpR X (binaryOp .Mult) (rI yX fun i j=>.int (i*j)):=opI fun _ _ _ _ _ _ _ hc q=>mul_int q hc.ok
theorem vJ:OpR X (binaryOp .FloorDiv) (rI Ah fun i j=>.int (i / j)):=opI fun i j _ _ _ _ _ hc q=>by
 have h1:(0:Int)<j:=hc.1
 have h2:j<1073741824:=hc.2
 exact floordiv_int (by omega) (by rw [Int.fdiv_eq_ediv_of_nonneg i (by omega)]; exact q) (.inl (PyProof.noPylong_small (by omega)))
theorem yg:OpR X (binaryOp .Mod) (rI (fun _ j=>0<j) fun i j=>.int (i % j)):=opI fun i j _ _ _ _ _ hc q=>by
 have h1:(0:Int)<j:=hc
 exact mod_int' (by omega) (by rw [Int.fmod_eq_emod_of_nonneg i (by omega)]; exact q)
theorem ye:OpR X (binaryOp .Pow) (rI A7 fun i j=>.int (i ^ j.toNat)):=opI fun _ _ _ _ _ _ _ hc q=>pow_int_small hc.1 hc.2.1 hc.2.2 q
theorem unI{f:Value→Sem Value}{g:Int→Int}
  (rule:∀ (i:Int) (t:Tok) (s:Shared) (Q:Value→Shared→Prop) (E:Value→Shared→Prop),Q (.int (g i) s.toks) {s with toks:=s.toks+1}→wpAny (model X.prog X.w) X.A (f (.int i t)) Q E s) :
  UnR X f (rU fun i=>.int (g i)):=by
 intro pins s σ H x v Q I rx h
 obtain⟨i,rfl,q⟩:=h
 obtain⟨t,rfl⟩:=rx
 exact rule i t s _ _ ⟨.int (g i),H,I.tok _,⟨_,rfl⟩,q⟩
theorem mV:UnR X (unaryOp .USub) (rU fun i=>.int (-i)):=unI fun _ _ _ _ _ q=>neg_int q
end
def zg:V→V→Bool
 | .non,.non=>true | .non,.int _=>true | .int _,.non=>true | .non,.bl _=>true | .bl _,.non=>true | .non,.str _=>true | .str _,.non=>true
 | .int _,.int _=>true | .bl _,.bl _=>true | .str _,.str _=>true | .byt _,.byt _=>true
 | .int _,.str _=>true | .str _,.int _=>true | .bl _,.str _=>true | .str _,.bl _=>true
 | _,_=>false
def rEq:R2:=fun x y H Q=>zg x y=true∧Q (.bl (decide (x=y))) H
def rNe:R2:=fun x y H Q=>zg x y=true∧Q (.bl (!decide (x=y))) H
theorem pF{i j:Int}:decide (V.int i=V.int j)=(i==j):=by
 rw [Bool.eq_iff_iff]
 simp
theorem uL{i j:Bool}:decide (V.bl i=V.bl j)=(i==j):=by
 rw [Bool.eq_iff_iff]
 simp
theorem pE{i j:Str}:decide (V.str i=V.str j)=(i==j):=by
 rw [Bool.eq_iff_iff]
 simp
theorem pG{i j:Array UInt8}:decide (V.byt i=V.byt j)=(i.toList==j.toList):=by
 rw [Bool.eq_iff_iff]
 cases i
 cases j
 simp
section
variable{X:Cx}{a b c:Expr}{ta tb tc:TE}{pos:Pos}
theorem aB{pins:List (Addr×Obj)}{σ:St}{H:Hp}{s:Shared}{Q:VK}{k k':Bool}(I:Inv X pins σ H s)(q:Q (.bl k) H)(e:k=k'):EP X pins σ Q (.bool k') s:=by
 subst e
 exact⟨.bl k,H,I,rfl,q⟩
theorem tJ:OpR X (compareOp .Eq) rEq:=by
 intro pins s σ H x y v u Q I rx ry h
 obtain⟨hs,q⟩:=h
 cases x with
 | non=>
  cases rx
  cases y with
  | non=>cases ry; exact PySem.EqNone.eq_none_none (aB I q (by simp))
  | bl j=>cases ry; exact PySem.EqNone.eq_none_bool (aB I q (by simp))
  | int j=>obtain⟨t',rfl⟩:=ry; exact PySem.EqNone.eq_none_int (aB I q (by simp))
  | str j=>obtain⟨t',rfl⟩:=ry; exact PySem.EqNone.eq_none_str (aB I q (by simp))
  | _=>exact absurd (show false=true from hs) Bool.false_ne_true
 | bl i=>
  cases rx
  cases y with
  | non=>cases ry; exact PySem.EqNone.eq_bool_none (aB I q (by simp))
  | bl j=>cases ry; exact eq_bool (aB I q uL)
  | str j=>obtain⟨t',rfl⟩:=ry; exact PySem.EqMixed.eq_bool_str (aB I q (by simp))
  | _=>exact absurd (show false=true from hs) Bool.false_ne_true
 | int i=>
  obtain⟨t,rfl⟩:=rx
  cases y with
  | non=>cases ry; exact PySem.EqNone.eq_int_none (aB I q (by simp))
  | int j=>obtain⟨t',rfl⟩:=ry; exact eq_int (aB I q pF)
  | str j=>obtain⟨t',rfl⟩:=ry; exact PySem.EqMixed.eq_int_str (aB I q (by simp))
  | _=>exact absurd (show false=true from hs) Bool.false_ne_true
 | str i=>
  obtain⟨t,rfl⟩:=rx
  cases y with
  | non=>cases ry; exact PySem.EqNone.eq_str_none (aB I q (by simp))
  | bl j=>cases ry; exact PySem.EqMixed.eq_str_bool (aB I q (by simp))
  | int j=>obtain⟨t',rfl⟩:=ry; exact PySem.EqMixed.eq_str_int (aB I q (by simp))
  | str j=>obtain⟨t',rfl⟩:=ry; exact eq_str (aB I q pE)
  | _=>exact absurd (show false=true from hs) Bool.false_ne_true
 | byt i=>
  obtain⟨t,rfl⟩:=rx
  cases y with
  | byt j=>obtain⟨t',rfl⟩:=ry; exact PySem.W.eq_bytes (aB I q pG)
  | _=>exact absurd (show false=true from hs) Bool.false_ne_true
 | _=>cases y <;> exact absurd (show false=true from hs) Bool.false_ne_true
theorem tI:OpR X (compareOp .NotEq) rNe:=by
 intro pins s σ H x y v u Q I rx ry h
 obtain⟨hs,q⟩:=h
 cases x with
 | non=>
  cases rx
  cases y with
  | non=>cases ry; exact PySem.EqNone.ne_none_none (aB I q (by simp))
  | bl j=>cases ry; exact PySem.EqNone.ne_none_bool (aB I q (by simp))
  | int j=>obtain⟨t',rfl⟩:=ry; exact PySem.EqNone.ne_none_int (aB I q (by simp))
  | str j=>obtain⟨t',rfl⟩:=ry; exact PySem.EqNone.ne_none_str (aB I q (by simp))
  | _=>exact absurd (show false=true from hs) Bool.false_ne_true
 | bl i=>
  cases rx
  cases y with
  | non=>cases ry; exact PySem.EqNone.ne_bool_none (aB I q (by simp))
  | bl j=>cases ry; exact ne_bool (aB I q (congrArg not uL))
  | str j=>obtain⟨t',rfl⟩:=ry; exact PySem.EqMixed.ne_bool_str (aB I q (by simp))
  | _=>exact absurd (show false=true from hs) Bool.false_ne_true
 | int i=>
  obtain⟨t,rfl⟩:=rx
  cases y with
  | non=>cases ry; exact PySem.EqNone.ne_int_none (aB I q (by simp))
  | int j=>obtain⟨t',rfl⟩:=ry; exact ne_int (aB I q (congrArg not pF))
  | str j=>obtain⟨t',rfl⟩:=ry; exact PySem.EqMixed.ne_int_str (aB I q (by simp))
  | _=>exact absurd (show false=true from hs) Bool.false_ne_true
 | str i=>
  obtain⟨t,rfl⟩:=rx
  cases y with
  | non=>cases ry; exact PySem.EqNone.ne_str_none (aB I q (by simp))
  | bl j=>cases ry; exact PySem.EqMixed.ne_str_bool (aB I q (by simp))
  | int j=>obtain⟨t',rfl⟩:=ry; exact PySem.EqMixed.ne_str_int (aB I q (by simp))
  | str j=>obtain⟨t',rfl⟩:=ry; exact ne_str (aB I q (congrArg not pE))
  | _=>exact absurd (show false=true from hs) Bool.false_ne_true
 | byt i=>
  obtain⟨t,rfl⟩:=rx
  cases y with
  | byt j=>obtain⟨t',rfl⟩:=ry; exact PySem.W.ne_bytes (aB I q (congrArg not pG))
  | _=>exact absurd (show false=true from hs) Bool.false_ne_true
 | _=>cases y <;> exact absurd (show false=true from hs) Bool.false_ne_true
theorem zu:OpR X (compareOp .Lt) (rI0 fun i j=>.bl (decide (i<j))):=yj fun _ _ _ _ _ _ _ q=>lt_int q
theorem zv:OpR X (compareOp .LtE) (rI0 fun i j=>.bl (decide (i≤j))):=yj fun _ _ _ _ _ _ _ q=>le_int q
theorem zw:OpR X (compareOp .Gt) (rI0 fun i j=>.bl (decide (j<i))):=yj fun _ _ _ _ _ _ _ q=>gt_int q
inductive rOp_in_strI(x:V)(y:V)(H:Hp)(Q:VK):Prop where
 | mk:∀ i j,x=.str i→y=.str j→Q (.bl (!(Builtin.Str.occurrences j i 0 j.length 1).isEmpty)) H→rOp_in_strI x y H Q
theorem jC:OpR X (compareOp .In) (fun x y H Q=>rOp_in_strI x y H Q):=by
 intro pins s σ H x y v u Q I rx ry h
 obtain⟨i,j,rfl,rfl,q⟩:=h
 obtain⟨t,rfl⟩:=rx
 obtain⟨t',rfl⟩:=ry
 exact in_str (aB I q rfl)
theorem vI:OpR X (compareOp .IsNot) (fun x y H Q=>y=.non∧Q (.bl (!decide (x=.non))) H):=by
 intro pins s σ H x y v u Q I rx ry h
 obtain⟨rfl,q⟩:=h
 cases ry
 refine isnot_none_gen (aB I q ?_)
 cases x <;> first
  | (cases rx; rfl)
  | (obtain⟨t,rfl⟩:=rx; rfl)
theorem iO(b:Expr){op:CmpOp}(h:op≠.In:=by decide)(h2:op≠.NotIn:=by decide):behindInMarks op b=false:=by
 have e1:(op==CmpOp.In)=false:=by cases op <;> first | rfl | exact absurd rfl h
 have e2:(op==CmpOp.NotIn)=false:=by cases op <;> first | rfl | exact absurd rfl h2
 cases b <;> simp [behindInMarks,e1,e2]
theorem ge{op:CmpOp}{r:R2}(ho:OpR X (compareOp op) r)(ha:PE X a ta)(hb:PE X b tb)(hm:behindInMarks op b=false):PE X (.Compare a [op] [b] pos) (tOp r ta tb):=by
 intro pins s σ H Q I h
 exact wpAny_Compare1 (yS ha hb I h fun v u s2 x y H2 I2 rx ry q=>ho pins s2 σ H2 x y v u Q I2 rx ry q) hm
inductive tTestI(Q:(Bool→Hp→Prop))(x:V)(H':Hp):Prop where
 | mk:∀ k,x=.bl k→Q k H'→tTestI Q x H'
def wZ(t:TE):TT:=fun σ H Q=>t σ H fun x H'=>tTestI Q x H'
theorem cD{op:CmpOp}{r:R2}(ho:OpR X (compareOp op) r)(ha:PE X a ta)(hb:PE X b tb)(hm:behindInMarks op b=false):PT X (.Compare a [op] [b] pos) (wZ (tOp r ta tb)):=by
 intro pins s σ H Q I h
 refine wpAny_isTrue_Compare1 (thn (ha pins s σ H _ I h) fun v s1 ⟨x,H1,I1,r1,q1⟩=>thn (hb pins s1 σ H1 _ I1 q1) fun u s2 ⟨y,H2,I2,r2,q2⟩=>
  thn (ho pins s2 σ H2 x y v u _ I2 r1 r2 q2) fun c s3 ⟨z,H3,I3,r3,k,e,q3⟩=>?_) hm
 subst e
 cases r3
 exact wpAny_truthy_bool ⟨H3,I3,q3⟩
inductive tChainI(r':R2)(tc:TE)(σ:St)(Q:VK)(y:V)(z:V)(H3:Hp):Prop where
 | mk:∀ k,z=.bl k→((if k=true then tc σ H3 fun w' H4=>r' y w' H4 Q else Q (.bl false) H3))→tChainI r' tc σ Q y z H3
def xH(r r':R2)(ta tb tc:TE):TE:=fun σ H Q=>ta σ H fun x H1=>tb σ H1 fun y H2=>r x y H2 fun z H3=>tChainI r' tc σ Q y z H3
theorem sQ{op op':CmpOp}{r r':R2}(ho:OpR X (compareOp op) r)(ho':OpR X (compareOp op') r')(ha:PE X a ta)(hb:PE X b tb)(hc:PE X c tc)
  (hm:lastMarks [op,op'] [b,c]=false:=by with_unfolding_all rfl):PT X (.Compare a [op,op'] [b,c] pos) (wZ (xH r r' ta tb tc)):=by
 intro pins s σ H Q I h
 refine isTrue_chain (thn (ha pins s σ H _ I h) fun v s1 ⟨x,H1,I1,r1,q1⟩=>test_link (thn (hb pins s1 σ H1 _ I1 q1) fun u s2 ⟨y,H2,I2,r2,q2⟩=>
  thn (ho pins s2 σ H2 x y v u _ I2 r1 r2 q2) fun d s3 ⟨z,H3,I3,r3,k,e,q3⟩=>?_)) hm
 subst e
 cases r3
 refine wpAny_truthy_bool ?_
 cases k with
 | false=>
  obtain⟨k',e',q'⟩:=q3
  cases e'
  exact ite_ff ⟨H3,I3,q'⟩
 | true=>
  refine ite_tt (test_last (thn (hc pins s3 σ H3 _ I3 q3) fun w' s4 ⟨z',H4,I4,r4,q4⟩=>thn (ho' pins s4 σ H4 y z' u w' _ I4 r2 r4 q4) fun d' s5 ⟨z2,H5,I5,r5,k2,e2,q5⟩=>?_))
  subst e2
  cases r5
  exact wpAny_truthy_bool ⟨H5,I5,q5⟩
def z8(K:PySem.W.Frag)(x:V)(H:Hp)(k:Bool):Prop:=
 match x with
 | .non=>k=false
 | .bl b=>k=b
 | .int i=>k=(i != 0)
 | .str y=>y.length≤sizeLine∧k=((y.length:Int) != 0)
 | .byt y=>y.size≤sizeLine∧k=((y.size:Int) != 0)
 | .ref p=>(∃ xs,SqL K H p xs∧k = !xs.isEmpty)∨(∃ xs,SqT K H p xs∧k = !xs.isEmpty)∨∃ kvs,H p=some (.dK kvs)∧k = !kvs.isEmpty
 | _=>False
theorem n9{κ:Type}{kvs:List (κ×V)}{vs:List (κ×Value)}(r:KV kvs vs):(!vs.isEmpty) = !kvs.isEmpty:=by
 cases r <;> rfl
theorem iV{xs:List V}{its:List Value}(r:aw xs its):(!its.toArray.isEmpty) = !xs.isEmpty:=by
 cases r <;> simp
theorem eG:(sizeLine:Nat)<2 ^ 63:=by rw [sizeLine_eq]; decide
theorem xD:A5 X (fun x H Q=>∃ k,z8 X.K x H k∧Q k H):=by
 intro pins s σ H x v Q I rx h
 obtain⟨k,e,q⟩:=h
 have hl:=eG
 have hs:sizeLine=16777216:=sizeLine_eq
 cases x with
 | non=>
  cases rx
  have e':k=false:=e
  subst e'
  exact truthy_none ⟨H,I,q⟩
 | bl b=>
  cases rx
  have e':k=b:=e
  subst e'
  exact wpAny_truthy_bool ⟨H,I,q⟩
 | int i=>
  obtain⟨t,rfl⟩:=rx
  have e':k=(i != 0):=e
  subst e'
  exact PySem.P.truthy_int ⟨H,I,q⟩
 | str y=>
  obtain⟨t,rfl⟩:=rx
  obtain⟨hy,e'⟩:y.length≤sizeLine∧k=((y.length:Int) != 0):=e
  subst e'
  exact PySem.P.truthy_str (by omega) ⟨H,I.tok _,q⟩
 | byt y=>
  obtain⟨t,rfl⟩:=rx
  obtain⟨hy,e'⟩:y.size≤sizeLine∧k=((y.size:Int) != 0):=e
  subst e'
  exact PySem.W.truthy_bytes (by omega) ⟨H,I.tok _,q⟩
 | ref p=>
  cases rx
  have e':(∃ xs,SqL X.K H p xs∧k = !xs.isEmpty)∨(∃ xs,SqT X.K H p xs∧k = !xs.isEmpty)∨∃ kvs,H p=some (.dK kvs)∧k = !kvs.isEmpty:=e
  rcases e' with ⟨xs,hx,e'⟩ | ⟨xs,hx,e'⟩ | ⟨kvs,hx,e'⟩
  ·subst e'
   obtain⟨its,r,pl,hz⟩:=I.list hx
   have hlen:=r.length
   exact wpAny_truthy_list pl.isList (by simp only [List.size_toArray]; omega) ⟨H,I.tok _,by rw [iV r]; exact q⟩
  ·subst e'
   obtain⟨its,r,pl,hz⟩:=I.tuple hx
   have hlen:=r.length
   exact truthy_tuple pl (by simp only [List.size_toArray]; omega) ⟨H,I.tok _,by rw [iV r]; exact q⟩
  ·subst e'
   obtain⟨hz,hS,vs,r,m⟩:kvs.length≤sizeLine∧(p==sysModules)=false∧∃ vs,KV kvs vs∧s.heap.DictOf (aI X.prog X.w) p vs:=I.hok p _ hx
   have hlen:kvs.length=vs.length:=Paired.length r
   exact wpAny_truthy_dict hS m (by omega) ⟨H,I.tok _,by rw [n9 r]; exact q⟩
 | _=>exact(show False from e).elim
theorem iK(ha:PE X a ta)(he:∀ whole,isTrue a X.env whole=(do let v ← whole; standAt a.pos; holding [v] (truthy v))):
  PT X a (fun σ H Q=>ta σ H fun x H'=>∃ k,z8 X.K x H' k∧Q k H'):=by
 intro pins s σ H Q I h
 exact isTrue_plain (thn (ha pins s σ H _ I h) fun v s1 ⟨x,H1,I1,r1,q1⟩=>xD pins s1 σ H1 x v Q I1 r1 q1) (he _)
inductive rOp_add_strI(x:V)(y:V)(H:Hp)(Q:VK):Prop where
 | mk:∀ i j,x=.str i→y=.str j→i.length+j.length≤sizeLine→Q (.str (i++j)) H→rOp_add_strI x y H Q
theorem nH:OpR X (binaryOp .Add) (fun x y H Q=>rOp_add_strI x y H Q):=by
 intro pins s σ H x y v u Q I rx ry h
 obtain⟨i,j,rfl,rfl,hz,q⟩:=h
 obtain⟨t,rfl⟩:=rx
 obtain⟨t',rfl⟩:=ry
 exact add_str (fun t' tk=>⟨.str (i++j),H,I.tok _,⟨_,rfl⟩,q⟩) hz
theorem ci{x:V}{us:List Value}(r:aw [x] us):∃ u,us=[u]∧az x u:=by
 cases r with
 | cons r1 r2=>cases r2; exact⟨_,rfl,r1⟩
theorem jo{x y:V}{us:List Value}(r:aw [x,y] us):∃ u w',us=[u,w']∧az x u∧az y w':=by
 cases r with
 | cons r1 r2=>
  cases r2 with
  | cons r3 r4=>cases r4; exact⟨_,_,rfl,r1,r3⟩
inductive rCall_absI(xs:List V)(H:Hp)(Q:VK):Prop where
 | mk:∀ i,xs=[.int i]→(Q (.int (if i<0 then -i else i)) H)→rCall_absI xs H Q
theorem uN:cv X (.builtin "abs") (fun xs H Q=>rCall_absI xs H Q):=by
 intro pins s σ H xs us Q I r h
 obtain⟨i,rfl,q⟩:=h
 obtain⟨u,rfl,t,rfl⟩:=ci r
 exact call_abs_int fun u tk=>⟨.int (if i<0 then -i else i),H,I.tok _,⟨_,rfl⟩,q⟩
inductive rCall_max2I(xs:List V)(H:Hp)(Q:VK):Prop where
 | mk:∀ i j,xs=[.int i,.int j]→(Q (.int (if j > i then j else i)) H)→rCall_max2I xs H Q
theorem qV(hc:X.calm=true):cv X (.builtin "max") (fun xs H Q=>rCall_max2I xs H Q):=by
 intro pins s σ H xs us Q I r h
 obtain⟨i,j,rfl,q⟩:=h
 obtain⟨u,w',rfl,⟨t,rfl⟩,⟨t',rfl⟩⟩:=jo r
 refine max_two_ints (I.ok.hd hc) fun h' tk k=>⟨_,H,I.kept k,?_,q⟩
 by_cases hj:j > i
 ·rw [if_pos hj,if_pos hj]; exact⟨_,rfl⟩
 ·rw [if_neg hj,if_neg hj]; exact⟨_,rfl⟩
theorem qY:cv X (.type "int") (fun xs H Q=>(∃ i,xs=[.int i]∧Q (.int i) H)∨∃ k,xs=[.bl k]∧Q (.int (if k then 1 else 0)) H):=by
 intro pins s σ H xs us Q I r h
 rcases h with ⟨i,rfl,q⟩ | ⟨k,rfl,q⟩
 ·obtain⟨u,rfl,t,rfl⟩:=ci r
  exact call_int_int ⟨.int i,H,I,⟨_,rfl⟩,q⟩
 ·obtain⟨u,rfl,r1⟩:=ci r
  cases r1
  exact call_int_bool ⟨.int (if k then 1 else 0),H,I.tok _,⟨_,rfl⟩,q⟩
inductive rCall_divmodI(xs:List V)(H:Hp)(Q:VK):Prop where
 | mk:∀ i j,xs=[.int i,.int j]→Ah i j→(∀ p,H p=none→Q (.ref p) (upd H p (.tup [.int (i / j),.int (i % j)])))→rCall_divmodI xs H Q
theorem mQ:cv X (.builtin "divmod") (fun xs H Q=>rCall_divmodI xs H Q):=by
 intro pins s σ H xs us Q I r h
 obtain⟨i,j,rfl,⟨h1,h2⟩,q⟩:=h
 obtain⟨u,w',rfl,⟨t,rfl⟩,⟨t',rfl⟩⟩:=jo r
 refine divmod_int (by omega) ?_ (.inl (PyProof.noPylong_small (by omega)))
 rw [Int.fdiv_eq_ediv_of_nonneg i (by omega),Int.fmod_eq_emod_of_nonneg i (by omega)]
 have hn:H s.heap.objs.size=none:=I.hok.fresh (Nat.le_refl _)
 refine⟨.ref s.heap.objs.size,_,?_,rfl,q _ hn⟩
 refine I.laid (fun b o e=>Heap.get?_push_of_some _ e) (Nat.le_refl _) ⟨by simp only [List.length_cons,List.length_nil]; rw [sizeLine_eq]; decide,[.int (i / j) s.toks,.int (i % j) (s.toks+1)],.cons ⟨_,rfl⟩ (.cons ⟨_,rfl⟩ .nil),?_⟩
 exact⟨_,Heap.get?_push_size s.heap rfl,rfl,0,rfl⟩
end
structure oz(h:Heap)(x dx C:Addr)(mA:Str→Option Value):Prop where
 obj:h.get? x=some (PySem.W.instObj C dx)
 ns:h.Ns1 dx mA
 ne:dx≠x
theorem qz{h:Heap}{dx:Addr}{mA:Str→Option Value}(n:h.Ns1 dx mA):∃ od,h.get? dx=some od∧∀ name,PySem.W.lookIn name od=some (mA name):=by
 obtain⟨o,es,ep,ho,hd,hk,_,hm⟩:=n
 refine⟨o,ho,fun name=>?_⟩
 have e:=hm name
 unfold nsFind findBy at e
 rw [← Array.find?_toList] at e
 unfold PySem.W.lookIn
 rw [hd]
 dsimp only
 split
 ·rename_i y q
  rw [q] at e
  exact congrArg some e
 ·rename_i q
  rw [q] at e
  have a:es.toList.any (·.refKey)=false:=by
   rw [List.any_eq_false]
   intro y hy
   obtain⟨z,t,hkey⟩:=hk y (Array.mem_toList_iff.mp hy)
   simp [DictEntry.refKey,hkey]
  have a':¬ es.toList.any (·.refKey)=true:=by rw [a]; exact Bool.false_ne_true
  rw [if_neg a']
  exact congrArg some e
theorem oz.look{h:Heap}{x dx C:Addr}{mA:Str→Option Value}(I:oz h x dx C mA):∃ od,PySem.W.InstAt h x (PySem.W.instObj C dx) C (some od)∧∀ name,PySem.W.lookIn name od=some (mA name):=
 let ⟨od,ho,hl⟩:=qz I.ns
 ⟨od,⟨I.obj,rfl,rfl,ho⟩,hl⟩
section
variable{prog:Program}{w:World}{A:Around}{E:Value→Shared→Prop}{s:Shared}{K:PySem.W.Frag}{x dx C f:Addr}{mA:Str→Option Value}{name:Str}{v:Value}
theorem wv{expr:Bool}{Q:Value→Shared→Prop}(X:K.In s.heap)(I:oz s.heap x dx C mA)(hg:PySem.W.plainGet K C name=true)(hh:PySem.W.hasDictIn K C=true)
  (ha:PySem.W.findIn K (.ref C) name=some none) (hv:mA name=some v) (hv':PySem.W.handedIn v=true) (h:Q v {s with toks:=s.toks+1}) :
  wpAny (model prog w) A (getAttr (.ref x) name expr) Q E s:=by
 obtain⟨od,J,hl⟩:=I.look
 exact PySem.W.get_value X J (PySem.W.plainGet_of hg).1 (PySem.W.findObj_own hh ha rfl (by rw [hl,hv])) hv' h
theorem uA{pl:Sem Bool}{Q:Value×List Value→Shared→Prop}(X:K.In s.heap)(I:oz s.heap x dx C mA)(hg:PySem.W.plainGet K C name=true)
  (hf:PySem.W.findIn K (.ref C) name=some (some (.ref f))) (ht:PySem.W.isFn K (.ref f)=true) (hv:mA name=none) (h:Q (.ref f,[.ref x]) s) :
  wpAny (model prog w) A (getMethod (.ref x) name pl) Q E s:=by
 obtain⟨od,J,hl⟩:=I.look
 exact PySem.W.method_fn X J (PySem.W.plainGet_of hg).1 (PySem.W.plainGet_of hg).2 hf (beq_iff_eq.mp ht) (by show (PySem.W.lookIn name od).map (·.isSome)=some false; rw [hl,hv]; rfl) h
theorem u9{ns:List Str}{Q:Unit→Shared→Prop}(X:K.In s.heap)(I:oz s.heap x dx C mA)
  (hs:PySem.W.findIn K (.ref C) "__setattr__"=some (some (.builtin "object.__setattr__"))) (hp:PySem.W.plainOver K C=true) (ht:PySem.W.takerIn K C name=some none) (hh:PySem.W.hasDictIn K C=true)
  (hw:PySem.Within mA ns) (hsz:ns.length≤sizeLine)
  (h:∀ h',oz h' x dx C (fun y=>if y=name then some v else mA y)→Heap.SameBut dx s.heap h'→Q () {s with heap:=h',toks:=s.toks+2}) :
  wpAny (model prog w) A (setAttr (.ref x) name v) Q E s:=by
 obtain⟨od,J,hl⟩:=I.look
 refine PySem.W.set_plain X J hs (PySem.W.osa_open (s:={s with toks:=s.toks+1}) (r:=none) X J hp ht fun b=>?_)
 obtain⟨cd,hc,hd'⟩:=PySem.W.any_some hh
 have hx:s.heap.get? x=some ⟨.ref C,some dx,.plain,#[]⟩:=I.obj
 refine wpAny_bind (wpAny_pure (wpAny_bind (wpAny_bind (wpAny_loadPart hx (wpAny_bind (PySem.W.Looks.here (s:={s with toks:=s.toks+1}) (PySem.W.looks_clsIn X hc) ?_))))))
 rw [hd']
 refine wpAny_pure (a:=some dx) (wpAny_bind (wpAny_pure (wpAny_bind ?_)))
 refine wpAny_nsSet1 (s:={s with toks:=s.toks+1}) I.ns fun h' hn2 hs2=>?_
 obtain⟨oD,esD,epD,hoD,hdD,hcD⟩:=hn2.count (PySem.Within.cons name v hw)
 refine wpAny_bind (wpAny_lookBehind hoD (by rw [hdD]; exact pastItsLine_dict (Nat.le_trans hcD (by rw [List.length_cons]; omega))) ?_)
 exact wpAny_pure (h _ ⟨(hs2.2 _ (Ne.symm I.ne)).trans I.obj,hn2,I.ne⟩ hs2)
theorem uq{R:Result→Shared→Prop}{vs:List Value}{kw:List (Str×Value)}(X:K.In s.heap)(hm:PySem.W.makesIn K C=true)
  (hi:PySem.W.findIn K (.ref C) "__init__"=some (some (.ref f))) (hf:PySem.W.typeIn K (.ref f)=some (.type "function"))
  (h:codeAny (model prog w) (A.under (.builtin "type.__call__" ⟨.ref C::vs,kw⟩)) (.call (.ref f) ⟨.ref (s.heap.objs.size+1)::vs,kw⟩) (PySem.W.InitBack (s.heap.objs.size+1) R)
   {s with heap:=(s.heap.push PySem.W.emptyDict).push (PySem.W.instObj C s.heap.objs.size)}) :
  codeAny (model prog w) A (.call (.ref C) ⟨vs,kw⟩) R s:=by
 obtain⟨hh,g,d,t,os⟩:=s
 exact PySem.W.make_core (PySem.W.makes_of X hm) (PySem.W.looks_findIn X hi) (fun self=>PySem.W.bind_fn X self hf) (.inl rfl) h
end
def putF(f:Str)(v:V):List (Str×V)→List (Str×V)
 | []=>[(f,v)]
 | (g,x)::r=>if g=f then (g,v)::r else (g,x)::putF f v r
theorem ah(f g:Str)(v:V):∀ fs:List (Str×V),(putF f v fs).lookup g=if g=f then some v else fs.lookup g
 | []=>by
  show List.lookup g [(f,v)]=_
  by_cases h:g=f
  ·have hb:(g==f)=true:=beq_iff_eq.mpr h
   simp only [List.lookup,hb,if_pos h]
  ·have hb:(g==f)=false:=beq_eq_false_iff_ne.mpr h
   simp only [List.lookup,hb,if_neg h]
 | (k,x)::r=>by
  have ih:=ah f g v r
  rw [show putF f v ((k,x)::r)=(if k=f then (k,v)::r else (k,x)::putF f v r) from rfl]
  by_cases hk:k=f
  ·rw [if_pos hk]
   by_cases h:g=k
   ·have hb:(g==k)=true:=beq_iff_eq.mpr h
    simp only [List.lookup,hb,if_pos (h.trans hk)]
   ·have hb:(g==k)=false:=beq_eq_false_iff_ne.mpr h
    simp only [List.lookup,hb,if_neg (fun e:g=f=>h (e.trans hk.symm))]
  ·rw [if_neg hk]
   by_cases h:g=k
   ·have hb:(g==k)=true:=beq_iff_eq.mpr h
    simp only [List.lookup,hb,if_neg (fun e:g=f=>hk (h.symm.trans e))]
   ·have hb:(g==k)=false:=beq_eq_false_iff_ne.mpr h
    simp only [List.lookup,hb]
    exact ih
theorem gO(f:Str)(v:V):∀ fs:List (Str×V),f∈(putF f v fs).map (·.1)∧∀ g,g∈fs.map (·.1)→g∈(putF f v fs).map (·.1)
 | []=>⟨by simp [putF],fun g h=>by simp at h⟩
 | (k,x)::r=>by
  obtain⟨i1,i2⟩:=gO f v r
  rw [show putF f v ((k,x)::r)=(if k=f then (k,v)::r else (k,x)::putF f v r) from rfl]
  by_cases hk:k=f
  ·rw [if_pos hk]
   subst hk
   exact⟨by simp,fun g h=>by simpa using h⟩
  ·rw [if_neg hk]
   refine⟨?_,fun g h=>?_⟩
   ·rw [List.map_cons]
    exact List.mem_cons_of_mem _ i1
   ·rw [List.map_cons] at h ⊢
    rcases List.mem_cons.mp h with e | e
    ·exact List.mem_cons.mpr (.inl e)
    ·exact List.mem_cons_of_mem _ (i2 g e)
theorem ay(f:Str)(v:V):∀ fs:List (Str×V),(putF f v fs).length≤fs.length+1
 | []=>by simp [putF]
 | (k,x)::r=>by
  have ih:=ay f v r
  rw [show putF f v ((k,x)::r)=(if k=f then (k,v)::r else (k,x)::putF f v r) from rfl]
  by_cases hk:k=f
  ·rw [if_pos hk,List.length_cons,List.length_cons]; omega
  ·rw [if_neg hk,List.length_cons,List.length_cons]; omega
theorem eZ.some_of{v:V}{o:Option Value}(r:eZ (some v) o):∃ u,o=some u∧az v u:=by
 cases o with
 | none=>exact(show False from r).elim
 | some u=>exact⟨u,rfl,r⟩
theorem eZ.none_of{o:Option Value}(r:eZ none o):o=none:=by
 cases o with
 | none=>rfl
 | some u=>exact(show False from r).elim
theorem qI{v:V}{u:Value}(r:az v u):PySem.W.handedIn u=true:=by
 cases v with
 | non=>cases (show u=Value.none from r); rfl
 | bl b=>cases (show u=Value.bool b from r); rfl
 | int i=>obtain⟨t,e⟩:=(show ∃ t,u=Value.int i t from r); cases e; rfl
 | str x=>obtain⟨t,e⟩:=(show ∃ t,u=Value.str x t from r); cases e; rfl
 | byt b=>obtain⟨t,e⟩:=(show ∃ t,u=Value.bytes b t from r); cases e; rfl
 | flt b=>obtain⟨t,e⟩:=(show ∃ t,u=Value.float b t from r); cases e; rfl
 | ref a=>cases (show u=Value.ref a from r); rfl
 | ty n=>cases (show u=Value.type n from r); rfl
section
variable{P:Program}{w:World}{H H':Hp}{h h':Heap}{a C dx:Addr}{fs fs':List (Str×V)}
theorem gj(hok:HOk P w H h)(e:H a=some (.ins C dx fs)):∃ mA,oz h a dx C mA∧(∀ f,eZ (fs.lookup f) (mA f))∧PySem.Within mA (fs.map (·.1))∧fs.length≤1000∧H dx=some (.own a):=by
 obtain⟨d,z,ne,ob,mA,n,r,q⟩:=(show aF P w H h a (.ins C dx fs) from hok a _ e)
 exact⟨mA,⟨ob,n,ne⟩,r,q,z,d⟩
end
structure Cls(K:PySem.W.Frag)(C:Addr):Prop where
 pg:PySem.W.plainGet K C Str.empty=true
 hd:PySem.W.hasDictIn K C=true
 po:PySem.W.plainOver K C=true
 sa:PySem.W.findIn K (.ref C) "__setattr__"=some (some (.builtin "object.__setattr__"))
theorem Cls.get{K:PySem.W.Frag}{C:Addr}(c:Cls K C)(f:Str):PySem.W.plainGet K C f=true:=c.pg
def bd(K:PySem.W.Frag)(C:Addr)(f:Str):Prop:=PySem.W.findIn K (.ref C) f=some none
theorem bd.taker{K:PySem.W.Frag}{C:Addr}{f:Str}(n:bd K C f):PySem.W.takerIn K C f=some none:=by
 unfold PySem.W.takerIn
 rw [show PySem.W.findIn K (.ref C) f=some none from n]
 rfl
structure fQ(K:PySem.W.Frag)(C:Addr)(m:Str)(f:Addr):Prop where
 at_:PySem.W.findIn K (.ref C) m=some (some (.ref f))
 fn:PySem.W.isFn K (.ref f)=true
 kp:PySem.W.keepIn K (.ref f)=true
section
variable{X:Cx}{pins:List (Addr×Obj)}{σ:St}{H:Hp}{s:Shared}{a C dx:Addr}{fs:List (Str×V)}{f:Str}{v:V}{A:Around}{E:Value→Shared→Prop}
theorem oi{b:Bool}{Q:Value→Shared→Prop}(I:Inv X pins σ H s)(e:H a=some (.ins C dx fs))(c:Cls X.K C)(n:bd X.K C f)(l:fs.lookup f=some v)
  (h:∀ u s',Inv X pins σ H s'→az v u→Q u s'):wpAny (model X.prog X.w) A (getAttr (.ref a) f b) Q E s:=by
 obtain⟨mA,O,r,_,_,_⟩:=gj I.hok e
 obtain⟨u,hu,ru⟩:=eZ.some_of (v:=v) (o:=mA f) (by rw [← l]; exact r f)
 exact wv I.kIn O (c.get f) c.hd n hu (qI ru) (h u _ (I.tok _) ru)
theorem oh{m:Str}{g:Addr}{pl:Sem Bool}{Q:Value×List Value→Shared→Prop}(I:Inv X pins σ H s)(e:H a=some (.ins C dx fs))(c:Cls X.K C)(k:fQ X.K C m g)(l:fs.lookup m=none)
  (h:Q (.ref g,[.ref a]) s):wpAny (model X.prog X.w) A (getMethod (.ref a) m pl) Q E s:=by
 obtain⟨mA,O,r,_,_,_⟩:=gj I.hok e
 have hn:mA m=none:=eZ.none_of (by rw [← l]; exact r m)
 exact uA I.kIn O (c.get m) k.at_ k.fn hn h
theorem nq{y:V}{u:Value}{Q:Unit→Shared→Prop}(I:Inv X pins σ H s)(e:H a=some (.ins C dx fs))(c:Cls X.K C)(n:bd X.K C f)(hl:fs.length<1000)(ry:az y u)
  (h:∀ s',Inv X pins σ (upd H a (.ins C dx (putF f y fs))) s'→Q () s'):wpAny (model X.prog X.w) A (setAttr (.ref a) f u) Q E s:=by
 obtain⟨mA,O,r,wi,_,ho⟩:=gj I.hok e
 have hz:(fs.map (·.1)).length≤sizeLine:=by rw [List.length_map,sizeLine_eq]; omega
 refine u9 I.kIn O c.sa c.po n.taker c.hd wi hz fun h' O' sb=>h _ ?_
 have hd:∃ o,h'.get? dx=some o:=let ⟨o,_,_,e',_⟩:=O'.ns; ⟨o,e'⟩
 refine I.write (x:=a) (e:=dx) (by rw [e]; exact True.intro) (.inr ho) (fun b q hb z=>(sb.2 b hb).trans z) hd ?_
 refine⟨by rw [ad O.ne]; exact ho,?_,O.ne,O'.obj,_,O'.ns,fun g=>?_,fun g hg=>?_⟩
 ·have:=ay f y fs; omega
 ·show eZ ((putF f y fs).lookup g) (if g=f then some u else mA g)
  rw [ah]
  by_cases q:g=f
  ·rw [if_pos q,if_pos q]; exact ry
  ·rw [if_neg q,if_neg q]; exact r g
 ·by_cases q:g=f
  ·rw [q]; exact(gO f y fs).1
  ·refine(gO f y fs).2 g (wi g fun z=>hg ?_)
   show (if g=f then some u else mA g)=none
   rw [if_neg q]; exact z
theorem Inv.made(I:Inv X pins σ H s):Inv X pins σ (upd (upd H s.heap.objs.size (.own (s.heap.objs.size+1))) (s.heap.objs.size+1) (.ins C s.heap.objs.size []))
  {s with heap:=(s.heap.push PySem.W.emptyDict).push (PySem.W.instObj C s.heap.objs.size)}:=by
 have e1:(s.heap.push PySem.W.emptyDict).get? s.heap.objs.size=some PySem.W.emptyDict:=Heap.get?_push_size s.heap rfl
 have e2:((s.heap.push PySem.W.emptyDict).push (PySem.W.instObj C s.heap.objs.size)).get? (s.heap.objs.size+1)=some (PySem.W.instObj C s.heap.objs.size):=by
  have:=Heap.get?_push_size (s.heap.push PySem.W.emptyDict) (o:=PySem.W.instObj C s.heap.objs.size) rfl
  rwa [Heap.size_push] at this
 have e3:(s.heap.push PySem.W.emptyDict).Ns s.heap.objs.size (fun _=>none):=⟨PySem.W.emptyDict,#[],_,e1,rfl,(fun e he=>absurd he (by simp)),fun _=>rfl⟩
 have I1:=I.laid (a:=s.heap.objs.size) (o:=.own (s.heap.objs.size+1)) (h':=s.heap.push PySem.W.emptyDict) (t':=s.toks) (fun b u q=>Heap.get?_push_of_some _ q) (Nat.le_refl _) ⟨_,e1⟩
 refine I1.laid (a:=s.heap.objs.size+1) (o:=.ins C s.heap.objs.size []) (t':=s.toks) (fun b u q=>Heap.get?_push_of_some _ q) (Nat.le_of_eq (Heap.size_push _ _)) ?_
 have ne:s.heap.objs.size≠s.heap.objs.size+1:=Nat.ne_of_lt (Nat.lt_succ_self _)
 refine⟨by rw [ad ne,aa],Nat.zero_le _,ne,e2,fun _=>none,(Heap.Ns1.of_empty e3).at fun o q=>Heap.get?_push_of_some _ q,fun _=>True.intro,fun y hy=>absurd rfl hy⟩
theorem wQ{prog:Program}{w:World}{env:Env}{e:Expr}{f:Str}{pos:Pos}{s:Shared}{Q:Value→Shared→Prop}(hb:attributeBase e f env (eval e env)=eval e env)
  (h:wpAny (model prog w) A (eval e env) (fun o s₁=>wpAny (model prog w) A (getAttr o f true) Q E s₁) E s):wpAny (model prog w) A (eval (.Attribute e f pos) env) Q E s:=
 Attribute_any_ h (by rw [arm_eval_Attribute,hb])
end
inductive tFldI(K:PySem.W.Frag)(f:Str)(Q:VK)(x:V)(H1:Hp):Prop where
 | mk:∀ a C dx fs v,x=.ref a→H1 a=some (.ins C dx fs)→Cls K C→bd K C f→fs.lookup f=some v→Q v H1→tFldI K f Q x H1
def Av(K:PySem.W.Frag)(ta:TE)(f:Str):TE:=fun σ H Q=>ta σ H fun x H1=>tFldI K f Q x H1
inductive sFldI(K:PySem.W.Frag)(f:Str)(D:dn)(σ:St)(y:V)(x:V)(H2:Hp):Prop where
 | mk:∀ a C dx fs,x=.ref a→H2 a=some (.ins C dx fs)→Cls K C→bd K C f→fs.length<1000→D.nx σ (upd H2 a (.ins C dx (putF f y fs)))→sFldI K f D σ y x H2
def Az(K:PySem.W.Frag)(ta tv:TE)(f:Str):TS:=fun D σ H=>tv σ H fun y H1=>ta σ H1 fun x H2=>sFldI K f D σ y x H2
section
variable{X:Cx}{o e value:Expr}{f:Str}{pos pos' tpos:Pos}{ta tv:TE}
theorem x9(he:PE X e ta)(hb:attributeBase e f X.env (eval e X.env)=eval e X.env):PE X (.Attribute e f pos) (Av X.K ta f):=by
 intro pins s σ H Q I h
 refine wQ hb (thn (he pins s σ H _ I h) fun u s1 ⟨x,H1,I1,rx,a,C,dx,fs,v,ex,ea,c,n,l,q⟩=>?_)
 subst ex
 obtain rfl:u=Value.ref a:=rx
 exact oi I1 ea c n l fun u' s2 I2 ru=>⟨v,H1,I2,ru,q⟩
theorem xQ(ha:PE X o ta)(hv:PE X value tv)(hs:swapsWith value (some (.Attribute o f pos')) pos.line X.env=pure false):PS X (.Assign [.Attribute o f pos'] value pos) (Az X.K ta tv f):=by
 intro pins s σ H D I h
 refine plainObj_wpAny_Assign_Attribute (thn (hv pins s σ H _ I h) fun u s1 ⟨y,H1,I1,ry,q⟩=>thn (ha pins s1 σ H1 _ I1 q) fun ov s2 ⟨x,H2,I2,rx,a,C,dx,fs,ex,ea,c,n,l,q2⟩=>?_) hs
 subst ex
 obtain rfl:ov=Value.ref a:=rx
 exact nq I2 ea c n l ry fun s3 I3=>⟨σ,_,I3,q2⟩
end
section
variable{X:Cx}{pins:List (Addr×Obj)}{σ:St}{H:Hp}{s:Shared}{A:Around}{E:Value→Shared→Prop}{Q:Value→Shared→Prop}{c:Value}{b:Bool}
inductive dW(K:PySem.W.Frag)(H:Hp):V→Value→Prop where
 | non:dW K H .non (.type "NoneType")
 | bl (x:Bool):dW K H (.bl x) (.type "bool")
 | int (i:Int):dW K H (.int i) (.type "int")
 | str (x:Str):dW K H (.str x) (.type "str")
 | flt (x:UInt64):dW K H (.flt x) (.type "float")
 | lst {a:Addr} {xs:List V} (e:H a=some (.lst xs)):dW K H (.ref a) (.type "list")
 | frz {a:Addr} {o:Obj} {xs:List V} (e:H a=some (.frz o (.lst xs))):dW K H (.ref a) (.type "list")
 | tup {a:Addr} {xs:List V} (e:H a=some (.tup xs)):dW K H (.ref a) (.type "tuple")
 | dK {a:Addr} {kvs:List (Key×V)} (e:H a=some (.dK kvs)):dW K H (.ref a) (.type "dict")
 | dT {a:Addr} {kvs:List (List Key×V)} (e:H a=some (.dT kvs)):dW K H (.ref a) (.type "dict")
 | ins {a C dx:Addr} {fs:List (Str×V)} (e:H a=some (.ins C dx fs)) (cl:Cls K C) (ha:PySem.W.findIn K (.ref C) "__class__"=some (some (.builtin "object.__class__")))
   (hn:PySem.W.specialIn K (.builtin "object.__class__") "__get__"=some (some (.builtin "getset_descriptor.__get__"))) (htk:PySem.W.takesIn K (.builtin "object.__class__")=some true)
   (hm:PySem.W.mroIn K C (.type "object")=some true):dW K H (.ref a) (.ref C)
theorem qF{x:V}{u t:Value}(I:Inv X pins σ H s)(rx:az x u)(ty:dW X.K H x t)(e:PySem.W.kitOne X.K t c=some b)(h:∀ tk,Q (.bool b) {s with toks:=tk}):
  wpAny (model X.prog X.w) A (call (.builtin "isinstance") [u,c]) Q E s:=by
 cases ty with
 | non=>cases (show u=Value.none from rx); exact PySem.W.kia_one PySem.W.kitx_none I.kIn True.intro e (fun z=>nomatch z) h
 | bl y=>cases (show u=Value.bool y from rx); exact PySem.W.kia_one PySem.W.kitx_bool I.kIn True.intro e (fun z=>nomatch z) h
 | int i=>obtain⟨t,q⟩:=(show ∃ t,u=Value.int i t from rx); cases q; exact PySem.W.kia_one PySem.W.kitx_int I.kIn True.intro e (fun z=>nomatch z) h
 | str y=>obtain⟨t,q⟩:=(show ∃ t,u=Value.str y t from rx); cases q; exact PySem.W.kia_one PySem.W.kitx_str I.kIn True.intro e (fun z=>nomatch z) h
 | flt y=>obtain⟨t,q⟩:=(show ∃ t,u=Value.float y t from rx); cases q; exact PySem.W.kia_one PySem.W.kitx_float I.kIn True.intro e (fun z=>nomatch z) h
 | @lst a xs ea=>
  cases (show u=Value.ref a from rx)
  obtain⟨_,_,n,_,h1⟩:=(show aF X.prog X.w H s.heap a (.lst xs) from I.hok a _ ea)
  exact PySem.W.kia_one PySem.W.kitx_list I.kIn ⟨_,h1,rfl⟩ e (fun z=>nomatch z) h
 | @frz a ob xs ea=>
  cases (show u=Value.ref a from rx)
  obtain⟨_,_,_,n,_,h1⟩:=(show aF X.prog X.w H s.heap a (.frz ob (.lst xs)) from I.hok a _ ea)
  exact PySem.W.kia_one PySem.W.kitx_list I.kIn ⟨_,h1,rfl⟩ e (fun z=>nomatch z) h
 | @tup a xs ea=>
  cases (show u=Value.ref a from rx)
  obtain⟨_,_,_,p⟩:=(show aF X.prog X.w H s.heap a (.tup xs) from I.hok a _ ea)
  obtain⟨o,h1,h2,_⟩:=p
  exact PySem.W.kia_one PySem.W.kitx_tuple I.kIn ⟨o,h1,h2⟩ e (fun z=>nomatch z) h
 | @dK a kvs ea=>
  cases (show u=Value.ref a from rx)
  obtain⟨_,_,vs,_,p⟩:=(show aF X.prog X.w H s.heap a (.dK kvs) from I.hok a _ ea)
  obtain⟨o,es,ep,h1,h2,_⟩:=p
  exact PySem.W.kia_one PySem.W.kitx_dict I.kIn ⟨o,h1,h2.1⟩ e (fun z=>nomatch z) h
 | @dT a kvs ea=>
  cases (show u=Value.ref a from rx)
  obtain⟨_,_,xs,_,o,es,ep,h1,h2,_⟩:=(show aF X.prog X.w H s.heap a (.dT kvs) from I.hok a _ ea)
  exact PySem.W.kia_one PySem.W.kitx_dict I.kIn ⟨o,h1,h2.1⟩ e (fun z=>nomatch z) h
 | @ins a C dx fs ea cl ha hn htk hm=>
  cases (show u=Value.ref a from rx)
  obtain⟨mA,O,_⟩:=gj I.hok ea
  obtain⟨od,J,_⟩:=O.look
  exact PySem.W.kia_one (PySem.W.kitx_own (cl.get _) cl.hd ha hn htk hm) I.kIn J e (fun z=>nomatch z) h
end
structure aW(k:Nat)(A:Around):Prop where
 hd:A.handled=none
 gd:A.guards=some []
 dp:A.depth+3*k+5<recursionLimit
 un:A.units+16*k+200<cLine
theorem aW.mono{j k:Nat}{A:Around}(r:aW k A)(h:j≤k):aW j A:=⟨r.hd,r.gd,by have:=r.dp; omega,by have:=r.un; omega⟩
theorem aW.deeper{k:Nat}{A:Around}(r:aW (k+1) A)(env:Env):aW k (A.deeper env):=
 ⟨r.hd,r.gd,by have:=r.dp; show A.depth+1+3*k+5<_; omega,by have:=r.un; show A.units+3+16*k+200<_; omega⟩
theorem nW{A:Around}{C:Addr}{us:List Value}{kw:List (Str×Value)}:(A.under (.builtin "type.__call__" ⟨.ref C::us,kw⟩)).depth=A.depth+1:=by
 first | rfl | simp [Around.under,Code.weight,Code.isCreation,Code.isGuard,Code.isCaller,Code.frames,Code.isFrame,guardIds]
theorem nV{A:Around}{C:Addr}{us:List Value}{kw:List (Str×Value)}:(A.under (.builtin "type.__call__" ⟨.ref C::us,kw⟩)).units=A.units+1:=by
 first | rfl | simp [Around.under,Code.cUnits,Code.frames,Code.isFrame]
theorem mq{A:Around}{C:Addr}{us:List Value}{kw:List (Str×Value)}:(A.under (.builtin "type.__call__" ⟨.ref C::us,kw⟩)).guards=A.guards:=by
  first
    | rfl
    | (show pushGuards (Code.guards _) A.guards=A.guards
       have e:Code.guards (.builtin "type.__call__" ⟨.ref C::us,kw⟩)=[]:=by first | rfl | (simp [Code.guards,Code.isGuard,guardIds])
       rw [e,pushGuards_eq]
       cases A.guards <;> simp)
theorem aW.make{k:Nat}{A:Around}(r:aW (k+1) A)(C:Addr)(us:List Value)(kw:List (Str×Value)):aW k (A.under (.builtin "type.__call__" ⟨.ref C::us,kw⟩)):=
 ⟨r.hd,by rw [mq]; exact r.gd,by have:=r.dp; rw [nW]; omega,by have:=r.un; rw [nV]; omega⟩
theorem aW.depth{k:Nat}{A:Around}(r:aW k A):A.depth<recursionLimit:=by have:=r.dp; omega
theorem aW.units{k:Nat}{A:Around}(r:aW k A):A.units+64<cLine:=by have:=r.un; omega
theorem aW.units0{k:Nat}{A:Around}(r:aW k A):A.units<cLine:=by have:=r.un; omega
def e7:TA:=fun _ H Q=>Q [] H
def d5(ta:TE)(tr:TA):TA:=fun σ H Q=>ta σ H fun x H1=>tr σ H1 fun xs H2=>Q (x::xs) H2
section
variable{X:Cx}{e:Expr}{es:List Expr}{te:TE}{t:TA}{pos:Pos}
theorem di:PA X [] e7:=fun _ _ _ _ H Q I h=>Calls.spliced_nil ⟨[],H,I,.nil,h⟩
theorem cV(ha:PE X e te)(hr:PA X es t)(hs:starEach (e::es) X.env=(false,eval e X.env)::starEach es X.env:=by rfl):PA X (e::es) (d5 te t):=by
 intro pos pins s σ H Q I h
 rw [hs]
 show wpAny _ _ (spliced ((false,eval e X.env)::backTo pos (starEach es X.env))) _ _ s
 refine Calls.spliced_cons (thn (ha pins s σ H _ I h) fun u s1 ⟨x,H1,I1,r1,q1⟩=>?_)
 exact thn (hr pos pins s1 σ H1 _ I1 q1) fun us s2 ⟨xs,H2,I2,r2,q2⟩=>⟨x::xs,H2,I2,.cons r1 r2,q2⟩
def Ap(t:TA):TE:=fun σ H Q=>t σ H fun xs H1=>xs.length≤sizeLine∧∀ p,H1 p=none→Q (.ref p) (upd H1 p (.tup xs))
def At(t:TA):TE:=fun σ H Q=>t σ H fun xs H1=>xs.length≤sizeLine∧∀ p,H1 p=none→Q (.ref p) (upd H1 p (.lst xs))
theorem xY{x1}(h:PA X es t):PE X (.Tuple es x1 pos) (Ap t):=by
 intro pins s σ H Q I hq
 refine wpAny_Tuple_spliced (thn (h pos pins s σ H _ I hq) fun us s1 ⟨xs,H1,I1,r,z,q⟩=>⟨by rw [← r.length]; exact z,?_⟩)
 have hf:H1 s1.heap.objs.size=none:=I1.hok.fresh (Nat.le_refl _)
 refine⟨.ref s1.heap.objs.size,upd H1 s1.heap.objs.size (.tup xs),I1.laid (t':=s1.toks) (fun b u e=>Heap.get?_push_of_some _ e) (Nat.le_refl _) ?_,rfl,q _ hf⟩
 exact⟨z,us,r,⟨_,Heap.get?_push_size _ rfl,rfl,_,rfl⟩⟩
theorem kD(h:PA X es t):PE X (.List es pos) (At t):=by
 intro pins s σ H Q I hq
 refine wpAny_List_spliced (thn (h pos pins s σ H _ I hq) fun us s1 ⟨xs,H1,I1,r,z,q⟩=>⟨by rw [← r.length]; exact z,?_⟩)
 have hf:H1 s1.heap.objs.size=none:=I1.hok.fresh (Nat.le_refl _)
 refine⟨.ref s1.heap.objs.size,upd H1 s1.heap.objs.size (.lst xs),I1.laid (t':=s1.toks) (fun b u e=>Heap.get?_push_of_some _ e) (Nat.le_refl _) ?_,rfl,q _ hf⟩
 exact⟨z,us,0,r,Heap.get?_push_size _ rfl⟩
end
abbrev Sp:=List V→Hp→VK→XK→Prop
abbrev CXT:=List Env→Hp→Shared→XK→Value→Shared→Prop
structure oB(P:Program)(w:World)(K:PySem.W.Frag)(mg:Str→Option Value)(base:Heap)(A:Around)(outer:List Env)(s:Shared)(H:Hp):Prop where
 frames:A.frames=some outer
 mod:Mod K mg base
 bs:∀ b o,base.get? b=some o→s.heap.get? b=some o∧H b=none
 bsz:base.objs.size≤s.heap.objs.size
 funs:s.heap.FunFrames base outer
 frf:∀ b∈frs outer,H b=none
 hok:HOk P w H s.heap
 bare:AllBare s.gens
def CE(outer:List Env)(P:Program)(w:World)(H:Hp)(s:Shared)(Q:VK)(u:Value)(s':Shared):Prop:=
 ∃ v H',s'.os=s.os∧AllBare s'.gens∧Un (frs outer) [] H H' s.heap s'.heap∧HOk P w H' s'.heap∧az v u∧Q v H'
def CR(CX:CXT)(outer:List Env)(P:Program)(w:World)(H:Hp)(s:Shared)(Q:VK)(E:XK)(r:Result)(s':Shared):Prop:=
 match r with
 | .ok (.ret u)=>CE outer P w H s Q u s'
 | .ok _=>False
 | .error e=>CX outer H s E e s'
structure aZ(P:Program)(w:World)(K:PySem.W.Frag)(mg:Str→Option Value)(base:Heap)(CX:CXT)(k:Nat)(f:Addr)(fd:FuncData)(ps:List Str)(sp:Sp):Prop where
 len:∀ vs H Q E,sp vs H Q E→vs.length=ps.length
 run:∀ (A:Around) (outer:List Env) (s:Shared) (H:Hp) (args:Args) (us:List Value) (vs:List V) (Q:VK) (E:XK),aW k A→oB P w K mg base A outer s H→BindsTo s fd args (ps.zip us)→aw vs us→sp vs H Q E→
  codeAny (model P w) A (.call (.ref f) args) (CR CX outer P w H s Q E) s
theorem oB.make{P:Program}{w:World}{K:PySem.W.Frag}{mg:Str→Option Value}{base:Heap}{A:Around}{outer:List Env}{s:Shared}{H:Hp}(e:oB P w K mg base A outer s H)(C:Addr)(us:List Value)(kw:List (Str×Value)):
  oB P w K mg base (A.under (.builtin "type.__call__" ⟨.ref C::us,kw⟩)) outer s H:=⟨by first | exact e.frames | (simpa [Around.under,Code.envs,Code.isFrame,pushEnvs] using e.frames),e.mod,e.bs,e.bsz,e.funs,e.frf,e.hok,e.bare⟩
section
variable{X:Cx}{pins:List (Addr×Obj)}{σ:St}{H:Hp}{s s':Shared}
theorem Inv.env0(I:Inv X pins σ H s):oB X.prog X.w X.K X.mg X.base X.A X.stack s H:=
 ⟨I.ok.frames,I.ok.mod,I.bs,Nat.le_trans I.ok.bsz I.sz,I.stack,I.stkFree,I.hok,I.bare⟩
theorem Inv.after{Q:VK}{u:Value}(I:Inv X pins σ H s)(h:CE X.stack X.prog X.w H s Q u s'):EP X pins σ Q u s':=by
 obtain⟨v,H',os,bare,un,hok,r,q⟩:=h
 obtain⟨hh,g,d,t,os'⟩:=s'
 obtain rfl:os'=s.os:=os
 exact⟨v,H',I.call (h':=hh) (g':=g) (d':=d) (t':=t) (ch:=[]) un hok bare (fun b z=>absurd z (by simp)),r,q⟩
end
def iw(sp:Sp)(dvs:List V)(E:XK)(t:TA):TE:=fun σ H Q=>t σ H fun vs H1=>sp (vs++dvs) H1 Q E
inductive tMethI(C:Addr)(m:Str)(sp:Sp)(dvs:List V)(E:XK)(t:TA)(σ:St)(Q:VK)(x:V)(H1:Hp):Prop where
 | mk:∀ a dx fs,x=.ref a→H1 a=some (.ins C dx fs)→fs.lookup m=none→(t σ H1 fun vs H2=>sp (x::(vs++dvs)) H2 Q E)→tMethI C m sp dvs E t σ Q x H1
def y7(C:Addr)(m:Str)(sp:Sp)(dvs:List V)(E:XK)(ta:TE)(t:TA):TE:=fun σ H Q=>ta σ H fun x H1=>tMethI C m sp dvs E t σ Q x H1
def xb(C:Addr)(sp:Sp)(dvs:List V)(E:XK)(t:TA):TE:=fun σ H Q=>t σ H fun vs H1=>∀ x dx,H1 x=none→H1 dx=none→dx≠x→
 sp (.ref x::(vs++dvs)) (upd (upd H1 dx (.own x)) x (.ins C dx [])) (fun v H2=>v=.non∧Q (.ref x) H2) E
def aU(K:PySem.W.Frag)(fd:FuncData)(ps:List Str)(ds:List Value):Prop:=
 ∀ (s:Shared) (us:List Value),K.In s.heap→(us++ds).length=ps.length→BindsTo s fd ⟨us,[]⟩ (ps.zip (us++ds))
theorem aU.all{K:PySem.W.Frag}{fd:FuncData}{ps:List Str}(h:∀ us:List Value,us.length=ps.length→bindArgs fd ⟨us,[]⟩=pure (ps.zip us)):aU K fd ps []:=fun s us _ hl=>by
 rw [List.append_nil] at hl ⊢
 exact .of_eq (h us hl)
def fP(CX:CXT)(X:Cx)(E:XK):Prop:=∀ (pins:List (Addr×Obj)) (σ:St) (H:Hp) (s:Shared) (e:Value) (s':Shared),Inv X pins σ H s→CX X.stack H s E e s'→X.xe e s'
section
variable{X:Cx}{CX:CXT}{k:Nat}{f C:Addr}{fd:FuncData}{ps:List Str}{sp:Sp}{dvs:List V}{ds:List Value}{E:XK}{x m:Str}{p pos apos:Pos}{e o:Expr}{es:List Expr}{ta:TE}{t:TA}
theorem sr{pins:List (Addr×Obj)}{σ:St}{H:Hp}{s:Shared}{Q:VK}{us:List Value}{vs:List V}(F:aZ X.prog X.w X.K X.mg X.base CX k f fd ps sp)(hr:aW k X.A)(hb:aU X.K fd ps ds)(hd:aw dvs ds)(hx:fP CX X E)
  (I:Inv X pins σ H s) (r:aw vs us) (h:sp (vs++dvs) H Q E):wpAny (model X.prog X.w) X.A (call (.ref f) us) (EP X pins σ Q) X.xe s:=by
 have r2:aw (vs++dvs) (us++ds):=r.append hd
 have hl:(us++ds).length=ps.length:=by rw [← r2.length]; exact F.len _ _ _ _ h
 refine wpAny_call (codeAny_mono (F.run X.A X.stack s H ⟨us,[]⟩ (us++ds) (vs++dvs) Q E hr I.env0 (hb s us I.kIn hl) r2 h) fun r s' hq=>?_)
 cases r with
 | error e=>exact hx pins σ H s e s' I hq
 | ok fl=>
  cases fl with
  | ret u=>exact I.after hq
  | next=>exact False.elim hq
  | brk=>exact False.elim hq
  | cont=>exact False.elim hq
theorem vG(F:aZ X.prog X.w X.K X.mg X.base CX k f fd ps sp)(hr:aW k X.A)(hg:Gl X x)(hm:X.mg x=some (.ref f))(hk:PySem.W.keepIn X.K (.ref f)=true)(hb:aU X.K fd ps ds)(hd:aw dvs ds)(hx:fP CX X E)
  (ha:PA X (e::es) t) (hdb:(x==("__debug__":Str))=false:=by decide) (he:starEach (e::es) X.env=(false,eval e X.env)::starEach es X.env:=by rfl) (hpl:(backTo pos (starEach es X.env)).any (·.1)=false:=by rfl) :
  PE X (.Call (.Name x p) (e::es) [] pos) (iw sp dvs E t):=by
 intro pins s σ H Q I h
 refine wpAny_Call_Name_kw (ip I hg hm ?_ hdb)
 refine PySem.W.callWith_K (h₀:=X.base) I.ok.mod.kin hk (thn (ha pos pins s σ H _ I h) fun us s1 ⟨vs,H1,I1,r,q⟩=>⟨I1.kIn,?_⟩) he hpl
 exact sr F hr hb hd hx I1 r q
theorem tE{pl:Sem Bool}(he:PE X o ta)(c:Cls X.K C)(hm:fQ X.K C m f)(F:aZ X.prog X.w X.K X.mg X.base CX k f fd ps sp)(hr:aW k X.A)(hb:aU X.K fd ps ds)(hd:aw dvs ds)(hx:fP CX X E)
  (ht:eval (.Call (.Attribute o m apos) [] [] pos) X.env=(do
   let ov ← eval o X.env
   standAt apos.atName
   let (f,first) ← holding [ov] (getMethod ov m pl)
   callWith pos f first (backTo pos (starEach [] X.env)) (backToKw pos (keywordEach [] X.env))):=by rfl) :
  PE X (.Call (.Attribute o m apos) [] [] pos) (y7 C m sp dvs E ta e7):=by
 intro pins s σ H Q I h
 refine PySem.W.methodCall_KW (pl:=pl) (thn (he pins s σ H _ I h) fun u s1 ⟨x,H1,I1,rx,a,dx,fs,ex,ea,l,q⟩=>?_) ht
 subst ex
 obtain rfl:u=Value.ref a:=rx
 refine oh I1 ea c hm l ?_
 exact PySem.W.callWith_K0 (first:=[.ref a]) I1.kIn hm.kp (sr (us:=[.ref a]) (vs:=[.ref a]) F hr hb hd hx I1 (.cons rfl .nil) q)
structure Mk(K:PySem.W.Frag)(C f:Addr):Prop where
 makes:PySem.W.makesIn K C=true
 init:PySem.W.findIn K (.ref C) "__init__"=some (some (.ref f))
 fn:PySem.W.isFn K (.ref f)=true
 kp:PySem.W.keepIn K (.ref C)=true
theorem lE{pins:List (Addr×Obj)}{σ:St}{H:Hp}{s:Shared}{Q:VK}{us:List Value}{vs:List V}(M:Mk X.K C f)(F:aZ X.prog X.w X.K X.mg X.base CX k f fd ps sp)(hr:aW (k+1) X.A)(hb:aU X.K fd ps ds)(hd:aw dvs ds)
  (hx:fP CX X E) (I:Inv X pins σ H s) (r:aw vs us)
  (h:∀ x dx,H x=none→H dx=none→dx≠x→sp (.ref x::(vs++dvs)) (upd (upd H dx (.own x)) x (.ins C dx [])) (fun v H2=>v=.non∧Q (.ref x) H2) E) :
  wpAny (model X.prog X.w) X.A (call (.ref C) us) (EP X pins σ Q) X.xe s:=by
 have hq:=h (s.heap.objs.size+1) s.heap.objs.size (I.hok.fresh (Nat.le_succ _)) (I.hok.fresh (Nat.le_refl _)) (Nat.ne_of_lt (Nat.lt_succ_self _))
 have I2:=Inv.made (C:=C) I
 have r2:aw (V.ref (s.heap.objs.size+1)::(vs++dvs)) (Value.ref (s.heap.objs.size+1)::(us++ds)):=.cons rfl (r.append hd)
 have hl:(Value.ref (s.heap.objs.size+1)::us++ds).length=ps.length:=by
  have e:=r2.length
  rw [F.len _ _ _ _ hq] at e
  exact e.symm
 refine wpAny_call (uq (f:=f) I.kIn M.makes M.init (beq_iff_eq.mp M.fn) (codeAny_mono (F.run _ X.stack _ _ ⟨Value.ref (s.heap.objs.size+1)::us,[]⟩ (Value.ref (s.heap.objs.size+1)::(us++ds)) _ _ E (hr.make C us [])
  (I2.env0.make C us []) (hb _ (Value.ref (s.heap.objs.size+1)::us) I2.kIn hl) r2 hq) fun r s' hq'=>?_))
 cases r with
 | error e=>exact hx pins σ _ _ e s' I2 hq'
 | ok fl=>
  cases fl with
  | ret u=>
   obtain⟨v,H',I3,rv,ev,q3⟩:=I2.after hq'
   subst ev
   exact⟨rv,⟨V.ref (s.heap.objs.size+1),H',I3,rfl,q3⟩⟩
  | next=>exact False.elim hq'
  | brk=>exact False.elim hq'
  | cont=>exact False.elim hq'
theorem vC(M:Mk X.K C f)(F:aZ X.prog X.w X.K X.mg X.base CX k f fd ps sp)(hr:aW (k+1) X.A)(hg:Gl X x)(hm:X.mg x=some (.ref C))(hb:aU X.K fd ps ds)(hd:aw dvs ds)(hx:fP CX X E)
  (ha:PA X (e::es) t) (hdb:(x==("__debug__":Str))=false:=by decide) (he:starEach (e::es) X.env=(false,eval e X.env)::starEach es X.env:=by rfl) (hpl:(backTo pos (starEach es X.env)).any (·.1)=false:=by rfl) :
  PE X (.Call (.Name x p) (e::es) [] pos) (xb C sp dvs E t):=by
 intro pins s σ H Q I h
 refine wpAny_Call_Name_kw (ip I hg hm ?_ hdb)
 refine PySem.W.callWith_K (h₀:=X.base) I.ok.mod.kin M.kp (thn (ha pos pins s σ H _ I h) fun us s1 ⟨vs,H1,I1,r,q⟩=>⟨I1.kIn,?_⟩) he hpl
 exact lE M F hr hb hd hx I1 r q
theorem tF(M:Mk X.K C f)(F:aZ X.prog X.w X.K X.mg X.base CX k f fd ps sp)(hr:aW (k+1) X.A)(hg:Gl X x)(hm:X.mg x=some (.ref C))(hb:aU X.K fd ps ds)(hd:aw dvs ds)(hx:fP CX X E)
  (hdb:(x==("__debug__":Str))=false:=by decide):PE X (.Call (.Name x p) [] [] pos) (xb C sp dvs E e7):=by
 intro pins s σ H Q I h
 refine wpAny_Call_Name_kw (ip I hg hm ?_ hdb)
 exact PySem.W.callWith_K0 I.kIn M.kp (lE (us:=[]) M F hr hb hd hx I .nil h)
end
section
variable{X:Cx}{CX:CXT}{k:Nat}{f C:Addr}{fd:FuncData}{ps ks:List Str}{sp:Sp}{E:XK}{x m:Str}{p pos apos kpos:Pos}{e o:Expr}{es:List Expr}{kws:List Keyword}{te ta:TE}{t tk:TA}{nm:Option Str}
variable{g:List Value→List Value→List Value}{gV:List V→List V→List V}
end
structure ak(N P:List Str)(sc:Scope):Prop where
 kind:sc.kind=.function
 co:sc.isCoroutine=false
 gen:sc.isGenerator=false
 nd:N.Nodup
 pre:N.take P.length=P
 par:∀ x∈P,sc.names.lookup x=some .local∨sc.names.lookup x=some .cell
 nofree:∀ y∈sc.names,y.2≠.free
theorem jW{kindOf:Str→Option NameKind}{x:Str}:∀ {binds:List (Str×Value)} {m:Str→Option Value},(∀ v,(x,v)∉binds)→bindL kindOf binds m x=m x
 | [],_,_=>rfl
 | (n,v)::r,m,h=>by
  unfold bindL
  rw [jW fun w hw=>h w (List.mem_cons_of_mem _ hw)]
  split
  ·have : x≠n:=by rintro rfl; exact h v List.mem_cons_self
   simp [this]
  ·rfl
theorem jY{kindOf:Str→Option NameKind}{x:Str}:∀ {binds:List (Str×Value)} {m:Str→Option Value},(∀ v,(x,v)∉binds)→bindC kindOf binds m x=m x
 | [],_,_=>rfl
 | (n,v)::r,m,h=>by
  unfold bindC
  rw [jY fun w hw=>h w (List.mem_cons_of_mem _ hw)]
  split
  ·rfl
  ·have : x≠n:=by rintro rfl; exact h v List.mem_cons_self
   simp [this]
theorem jX{kindOf:Str→Option NameKind}{x:Str}{v:Value}:∀ {P:List Str} {vs:List Value} {i:Nat} {m:Str→Option Value},P.Nodup→P[i]? = some x→vs[i]? = some v→kindOf x=some .local→
  bindL kindOf (P.zip vs) m x=some v
 | [],_,_,_,_,h,_,_=>by simp at h
 | _::_,[],_,_,_,_,h,_=>by simp at h
 | p::P,w::vs,0,m,nd,h1,h2,hk=>by
  simp at h1 h2; subst h1; subst h2
  show bindL kindOf ((p,w)::P.zip vs) m p=_
  unfold bindL
  rw [jW fun v hv=>(List.nodup_cons.mp nd).1 (List.of_mem_zip hv).1,if_pos hk]
  simp
 | p::P,w::vs,i+1,m,nd,h1,h2,hk=>by
  show bindL kindOf ((p,w)::P.zip vs) m x=_
  unfold bindL
  exact jX (i:=i) (List.nodup_cons.mp nd).2 (by simpa using h1) (by simpa using h2) hk
theorem jZ{kindOf:Str→Option NameKind}{x:Str}{v:Value}:∀ {P:List Str} {vs:List Value} {i:Nat} {m:Str→Option Value},P.Nodup→P[i]? = some x→vs[i]? = some v→kindOf x≠some .local→
  bindC kindOf (P.zip vs) m x=some v
 | [],_,_,_,_,h,_,_=>by simp at h
 | _::_,[],_,_,_,_,h,_=>by simp at h
 | p::P,w::vs,0,m,nd,h1,h2,hk=>by
  simp at h1 h2; subst h1; subst h2
  show bindC kindOf ((p,w)::P.zip vs) m p=_
  unfold bindC
  rw [jY fun v hv=>(List.nodup_cons.mp nd).1 (List.of_mem_zip hv).1,if_neg hk]
  simp
 | p::P,w::vs,i+1,m,nd,h1,h2,hk=>by
  show bindC kindOf ((p,w)::P.zip vs) m x=_
  unfold bindC
  exact jZ (i:=i) (List.nodup_cons.mp nd).2 (by simpa using h1) (by simpa using h2) hk
def f7(N:List Str)(vs:List V):St:=vs.map some++List.replicate (N.length-vs.length) none
def mJ(CX:CXT)(P:Program)(w:World)(K:PySem.W.Frag)(mg:Str→Option Value)(base:Heap)(N:List Str)(qual:Str)(scope:Scope)(f:Addr)(cd:Value)(A:Around)(outer:List Env)(s:Shared)(H:Hp)(E:XK):Cx where
 prog:=P
 w:=w
 K:=K
 mg:=mg
 base:=base
 A:=A.deeper (envOfC qual scope s.heap.objs.size f cd)
 N:=N
 s₀:=s
 H₀:=H
 env:=envOfC qual scope s.heap.objs.size f cd
 outer:=outer
 stack:=envOfC qual scope s.heap.objs.size f cd::outer
 ex:=[]
 calm:=true
 fn:=fun _=>true
 pn:=[]
 xe:=fun e s'=>wpAny (model P w) (A.deeper (envOfC qual scope s.heap.objs.size f cd)) (leaving (envOfC qual scope s.heap.objs.size f cd) e) (fun _ s''=>CX outer H s E e s'') (fun e' s''=>CX outer H s E e' s'') s'
theorem mP{sc:Scope}{n:Nat}{x:Str}(h:sc.names.lookup x=some .cell):∃ c,(cellsFrom n sc.names []).lookup x=some c:=by
 have q:=PySem.W.cellsFrom_some sc.names n [] (.inl h)
 exact Option.isSome_iff_exists.mp q
theorem qG{CX:CXT}{P:Program}{w:World}{K:PySem.W.Frag}{mg:Str→Option Value}{base:Heap}{N ps:List Str}{qual:Str}{scope:Scope}{f:Addr}{cd:Value}{A:Around}{outer:List Env}{s s1:Shared}{H:Hp}{E:XK}{us:List Value}{vs:List V}
  (S:ak N ps scope) (hd:A.handled=none) (e0:oB P w K mg base A outer s H) (hl:vs.length=ps.length) (r:aw vs us)
  (x:InCallC s s.heap.objs.size (bindL (envOfC qual scope s.heap.objs.size f cd).kindOf (ps.zip us) fun _=>none) (cellsFrom (s.heap.objs.size+1) scope.names []) (bindC (envOfC qual scope s.heap.objs.size f cd).kindOf (ps.zip us) fun _=>none) s1) :
  Inv (mJ CX P w K mg base N qual scope f cd A outer s H E) [] (f7 N vs) H s1:=by
 have hpl:ps.length≤N.length:=by have:=congrArg List.length S.pre; rw [List.length_take] at this; omega
 obtain⟨h1,tk,rfl,hk⟩:=x.done
 have noA:∀ b:Addr,b∉(mJ CX P w K mg base N qual scope f cd A outer s H E).ex:=fun b z=>absurd (show b∈([]:List Addr) from z) (by simp)
 refine⟨⟨e0.mod,S.kind,rfl,rfl,Nat.le_refl _,fun y z c h1 h2=>?_,fun y hy=>?_,fun y c _ h=>?_,fun _=>hd,Around.frames_deeper e0.frames,.inr ⟨rfl,rfl⟩,fun b z=>absurd z (noA b),e0.bs,e0.bsz,fun b _ _=>noA b,fun b z=>absurd z (noA b),e0.funs,e0.frf⟩,
  rfl,e0.bare,Un.kept hk,⟨_,x.toInCall.ns,fun i y v h1 h2 h3=>?_⟩,fun y c h=>⟨_,x.cell y c h⟩,e0.hok.fresh (Nat.le_refl _),fun y c h=>?_,fun p hp=>absurd (show p∈([]:List (Addr×Obj)) from hp) (by simp),e0.hok.kept hk,?_⟩
 ·exact name_of_addr x.apart (PySem.mem_of_lookup h1) (PySem.mem_of_lookup h2)
 ·have hy:scope.names.lookup y=some .cell∨scope.names.lookup y=some .free:=hy
  rcases hy with hy | hy
  ·exact mP hy
  ·exact absurd rfl (S.nofree _ (PySem.mem_of_lookup hy))
 ·exact Nat.le_of_lt (x.above y c (PySem.mem_of_lookup h))
 ·have hi:i<vs.length:=by
   unfold f7 at h2
   by_cases hi:i<vs.length
   ·exact hi
   ·rw [List.getElem?_append_right (by simpa using hi)] at h2
    rw [List.getElem?_replicate] at h2
    split at h2 <;> cases h2
  have ha:vs[i]? = some v:=by
   unfold f7 at h2
   rw [List.getElem?_append_left (by simpa using hi),List.getElem?_map] at h2
   cases e:vs[i]? with
   | none=>rw [e] at h2; cases h2
   | some a=>rw [e] at h2; cases h2; rfl
  obtain⟨u,hu,rv⟩:=r.get ha
  have hp:ps[i]? = some y:=by
   rw [← S.pre,List.getElem?_take_of_lt (by omega)]; exact h1
  have ndP:ps.Nodup:=by rw [← S.pre]; exact S.nd.sublist (List.take_sublist _ _)
  refine⟨u,rv,?_⟩
  rcases S.par y (List.mem_of_getElem? hp) with k | k
  ·exact .inl ⟨k,jX ndP hp hu k⟩
  ·obtain⟨c,e⟩:=mP (n:=s.heap.objs.size+1) k
   refine .inr ⟨.inl k,c,e,?_⟩
   have q:=x.cell y c e
   rw [jZ ndP hp hu (by show scope.names.lookup y≠_; rw [k]; decide)] at q
   exact q
 ·exact e0.hok.fresh (Nat.le_of_lt (x.above y c (PySem.mem_of_lookup h)))
 ·unfold f7
  show _=N.length
  rw [List.length_append,List.length_map,List.length_replicate]
  omega
theorem zR{CX:CXT}{P:Program}{w:World}{K:PySem.W.Frag}{mg:Str→Option Value}{base:Heap}{k:Nat}{f:Addr}{name qual:Str}{params:Arguments}{body:List Stmt}{scope:Scope}{dV kV doc pm cdv ct oc:Value}{an od:Option Addr}
  {osl:Array (Option Value)} {N ps:List Str} {sp:Sp} (lk:K.lookup f=some ⟨oc,od,.func (PySem.W.fnOf name qual params body scope dV kV doc pm an cdv ct),osl⟩) (hcd:PySem.W.codeIn K cdv qual=true) (S:ak N ps scope)
  (len:∀ vs H Q E,sp vs H Q E→vs.length=ps.length)
  (hbody:∀ (A:Around) (outer:List Env) (s:Shared) (H:Hp) (vs:List V) (Q:VK) (E:XK),aW k (A.deeper (envOfC qual scope s.heap.objs.size f cdv))→sp vs H Q E→
   ∃ t,PSs (mJ CX P w K mg base N qual scope f cdv A outer s H E) body t∧t {nx:=fun _ H'=>Q .non H',rt:=Q} (f7 N vs) H) :
  aZ P w K mg base CX (k+1) f (PySem.W.fnOf name qual params body scope dV kV doc pm an cdv ct) ps sp:=by
 refine⟨len,fun A outer s H args us vs Q E hr e0 hb r hsp=>?_⟩
 have hl:=len _ _ _ _ hsp
 have KX:K.In s.heap:=e0.mod.kin.keeps fun b o e=>(e0.bs b o e).1
 have lim:s.heap.NoLimit:=e0.mod.nolimit.keeps fun b o e=>(e0.bs b o e).1
 have hkind:∀ y∈ps.zip us,scope.names.lookup y.1=some .local∨(scope.names.lookup y.1=some .cell∧((cellsFrom (s.heap.objs.size+1) scope.names []).lookup y.1).isSome=true):=fun ⟨n,v⟩ hy=>by
  rcases S.par n (List.of_mem_zip hy).1 with q | q
  ·exact .inl q
  ·exact .inr ⟨q,PySem.W.cellsFrom_some _ _ _ (.inl q)⟩
 refine codeAny_call_function hr.depth (KX _ _ lk) rfl S.co S.gen rfl (PySem.W.codeRec_of KX hcd) (hb _ _ _ _ ?_)
 refine wpAny_newFunctionEnv_cells S.kind hkind fun env he s1 x=>?_
 subst he
 refine⟨lim.keeps x.toInCall.keep,codeAny_func ?_⟩
 obtain⟨t,ht,hq⟩:=hbody A outer s H vs Q E (hr.deeper _) hsp
 have I:Inv (mJ CX P w K mg base N qual scope f cdv A outer s H E) [] (f7 N vs) H s1:=qG S hr.hd e0 hl r x
 refine wpAny_mono (ht [] s1 (f7 N vs) H _ I hq) (fun fl s' hs=>?_) fun e s' hs=>hs
 have fin:∀ {σ':St} {H':Hp} {v:V} {u:Value},Inv (mJ CX P w K mg base N qual scope f cdv A outer s H E) [] σ' H' s'→az v u→Q v H'→CE outer P w H s Q u s':=
  fun {σ' H' v u} J rv q=>⟨v,H',J.os,J.bare,J.base,J.hok,rv,q⟩
 cases fl with
 | ret u=>
  obtain⟨v,σ',H',J,rv,q⟩:=hs
  exact fin J rv q
 | next=>
  obtain⟨σ',H',J,q⟩:=hs
  exact fin (v:=V.non) (u:=Value.none) J rfl q
 | brk=>
  obtain⟨_,_,_,q⟩:=hs
  exact False.elim q
 | cont=>
  obtain⟨_,_,_,q⟩:=hs
  exact False.elim q
section
variable{X:Cx}{x:Str}{p pos:Pos}{e:Expr}{es:List Expr}{t:TA}{id T:String}{r:List V→Hp→VK→Prop}
def tCB(r:List V→Hp→VK→Prop)(t:TA):TE:=fun σ H Q=>t σ H fun vs H1=>r vs H1 Q
theorem cp(hc:cv X (.builtin id) r)(hg:Gl X x)(hm:X.mg x=none)(hv:bootBuiltins x=some (.builtin id))(ha:PA X (e::es) t)(hn:x≠"__name__":=by decide)(hdb:(x==("__debug__":Str))=false:=by decide)
  (he:starEach (e::es) X.env=(false,eval e X.env)::starEach es X.env:=by rfl) (hpl:(backTo pos (starEach es X.env)).any (·.1)=false:=by rfl):PE X (.Call (.Name x p) (e::es) [] pos) (tCB r t):=by
 intro pins s σ H Q I h
 refine wpAny_Call_Name_kw (fH I hg hm hv ?_ hn hdb)
 exact PyProof.Rows.callWith_builtin1 (thn (ha pos pins s σ H _ I h) fun us s1 ⟨vs,H1,I1,r1,q1⟩=>hc pins s1 σ H1 vs us Q I1 r1 q1) he hpl
theorem qe(hc:cv X (.type T) r)(hg:Gl X x)(hm:X.mg x=none)(hv:bootBuiltins x=some (.type T))(ha:PA X (e::es) t)(hn:x≠"__name__":=by decide)(hdb:(x==("__debug__":Str))=false:=by decide)
  (he:starEach (e::es) X.env=(false,eval e X.env)::starEach es X.env:=by rfl) (hpl:(backTo pos (starEach es X.env)).any (·.1)=false:=by rfl):PE X (.Call (.Name x p) (e::es) [] pos) (tCB r t):=by
 intro pins s σ H Q I h
 refine wpAny_Call_Name_kw (fH I hg hm hv ?_ hn hdb)
 exact PyProof.Rows.callWith_type1 (thn (ha pos pins s σ H _ I h) fun us s1 ⟨vs,H1,I1,r1,q1⟩=>hc pins s1 σ H1 vs us Q I1 r1 q1) he hpl
end
end L2
namespace HT
open PySem PyProof.Rows
section
open PySem.SeqAt
open PySem.AutoSeq1 (wpAny_loadPart')
open PySem.MeetsSeq PySem.MeetsSeq2 PySem.MeetsSeq3
end
section
variable{prog:Program}{w:World}{A:Around}{E:Value→Shared→Prop}{s:Shared}
theorem cat_tup{t b:Addr}{vs ws:List Value}{Q:Value→Shared→Prop}(ht:IsTup s.heap t vs.toArray)(hb:IsTup s.heap b ws.toArray)(hv:vs≠[])
  (h1:ws=[]→Q (.ref t) s) (h2:ws≠[]→Q (.ref s.heap.objs.size) {s with heap:=s.heap.push {cls:=.type "tuple",data:=.seq (vs++ws).toArray}})
  (hsz:vs.length+ws.length≤sizeLine):wpAny (model prog w) A (binaryOp .Add (.ref t) (.ref b)) Q E s:=by
 obtain⟨⟨cls,dd,data,sl⟩,ho,hc,n,hd⟩:=id ht
 obtain⟨⟨cls2,dd2,data2,sl2⟩,ho2,hc2,n2,hd2⟩:=id hb
 simp only at hc hd hc2 hd2
 subst hc hd hc2 hd2
 have e:vs.toArray++ws.toArray=(vs++ws).toArray:=by simp
 by_cases hw:ws=[]
 ·exact concat_meets ⟨_,ho,rfl⟩ ⟨_,ho2,rfl⟩ noFill_tuple_add seq_tuple_add PySem.F.slot_tuple_add PySem.F.entry_tuple_add (PySem.F.args_tuple_add_2 _ _)
   (tuple_addW1 t b vs.toArray ws.toArray n n2 dd dd2 sl sl2 (by simpa using hv) (by simp [hw])) ⟨ho,ho2,h1 hw⟩
 ·refine concat_meets ⟨_,ho,rfl⟩ ⟨_,ho2,rfl⟩ noFill_tuple_add seq_tuple_add PySem.F.slot_tuple_add PySem.F.entry_tuple_add (PySem.F.args_tuple_add_2 _ _)
   (tuple_addW2 t b vs.toArray ws.toArray n n2 dd dd2 sl sl2 (by simpa using hv) (by simpa using hw) (by rw [List.size_toArray,List.size_toArray]; exact hsz)) ⟨ho,ho2,?_⟩
  rw [e]
  exact h2 hw
def sIx(n d:Nat):Option Int→Nat
 | none=>d
 | some v=>if v<0 then (v+(n:Int)).toNat else min v.toNat n
theorem sIx_none(n d:Nat):sIx n d none=d:=rfl
end
end HT
namespace L2
open PySem PySem.Spec PyProof.Rows
abbrev TO:=St→Hp→(Option Int→Hp→Prop)→Prop
def PO(X:Cx)(e:Option Expr)(t:TO):Prop:=
 ∀ (pins:List (Addr×Obj)) (s:Shared) (σ:St) (H:Hp) (Q:Option Int→Hp→Prop),Inv X pins σ H s→t σ H Q→
  wpAny (model X.prog X.w) X.A (evalPart e X.env) (fun u s'=>∃ o H',Inv X pins σ H' s'∧IsPart u o∧Q o H') X.xe s
def u4:TO:=fun _ H Q=>Q none H
inductive tPartI(Q:(Option Int→Hp→Prop))(x:V)(H1:Hp):Prop where
 | mk:∀ i,x=.int i→Q (some i) H1→tPartI Q x H1
def y6(t:TE):TO:=fun σ H Q=>t σ H fun x H1=>tPartI Q x H1
section
variable{X:Cx}{e:Expr}{te:TE}{lo hi:Option Expr}{tl th:TO}{pos p2:Pos}
theorem vy:PO X none u4:=by
 intro pins s σ H Q I h
 rw [evalPart_none]
 exact wpAny_pure ⟨none,H,I,.none,h⟩
theorem vw(h:PE X e te):PO X (some e) (y6 te):=by
 intro pins s σ H Q I hw
 rw [evalPart_some]
 refine thn (h pins s σ H _ I hw) fun u s1 ⟨x,H1,I1,r1,q1⟩=>?_
 obtain⟨i,rfl,q⟩:=q1
 obtain⟨t,rfl⟩:=r1
 exact⟨some i,H1,I1,.int i t,q⟩
def SlR(X:Cx)(r:V→Option Int→Option Int→Hp→VK→Prop):Prop:=
 ∀ (pins:List (Addr×Obj)) (s:Shared) (σ:St) (H:Hp) (x:V) (v vl vu:Value) (lo hi:Option Int) (sl:Addr) (Q:VK),Inv X pins σ H s→az x v→s.heap.IsSliceOf sl vl vu .none→IsPart vl lo→IsPart vu hi→r x lo hi H Q→
  ∃ T id,typeLookup (.type T) "__getitem__"=pure (some (.builtin id))∧s.TypeIs v T∧wpAny (model X.prog X.w) X.A (getItem v (.ref sl)) (EP X pins σ Q) X.xe s
def tSl(r:V→Option Int→Option Int→Hp→VK→Prop)(te:TE)(tl th:TO):TE:=fun σ H Q=>te σ H fun x H1=>tl σ H1 fun l H2=>th σ H2 fun u H3=>r x l u H3 Q
theorem tw{r:V→Option Int→Option Int→Hp→VK→Prop}(hr:SlR X r)(he:PE X e te)(hl:PO X lo tl)(hu:PO X hi th):PE X (.Subscript e (.Slice lo hi none p2) pos) (tSl r te tl th):=by
 intro pins s σ H Q I h
 refine Subscript_ (thn (he pins s σ H _ I h) fun v s1 ⟨x,H1,I1,r1,q1⟩=>?_)
 refine wpAny_Slice (thn (hl pins s1 σ H1 _ I1 q1) fun vl s2 ⟨l,H2,I2,pl,q2⟩=>thn (hu pins s2 σ H2 _ I2 q2) fun vu s3 ⟨u,H3,I3,pu,q3⟩=>?_)
 rw [evalPart_none]
 refine wpAny_pure ?_
 have I4:Inv X pins σ H3 {s3 with heap:=s3.heap.push {cls:=.type "slice",data:=.fields #[vl,vu,.none]}}:=I3.kept (t':=s3.toks) fun b ob q=>Heap.get?_push_of_some _ q
 obtain⟨T,id,hT,ht,hg⟩:=hr pins {s3 with heap:=s3.heap.push {cls:=.type "slice",data:=.fields #[vl,vu,.none]}} σ H3 x v vl vu l u s3.heap.objs.size Q I4 r1 (Heap.IsSliceOf.new ..) pl pu q3
 show wpAny (model X.prog X.w) X.A (subscriptTail e (.Slice lo hi none p2) v (.ref s3.heap.objs.size)) (EP X pins σ Q) X.xe {s3 with heap:=s3.heap.push {cls:=.type "slice",data:=.fields #[vl,vu,.none]}}
 exact tail_any (ops:=[.ref s3.heap.objs.size,v]) ht hT hg (by with_unfolding_all rfl)
def gl(xs:List V)(lo hi:Option Int):List V:=(xs.drop (HT.sIx xs.length 0 lo)).take (HT.sIx xs.length xs.length hi-HT.sIx xs.length 0 lo)
theorem hU(xs:List V)(lo hi:Option Int):(gl xs lo hi).length≤xs.length:=by
 unfold gl
 rw [List.length_take,List.length_drop]
 omega
inductive rCatTI(K:PySem.W.Frag)(x:V)(y:V)(H:Hp)(Q:VK):Prop where
 | mk:∀ a b xs ys,x=.ref a→y=.ref b→SqT K H a xs→SqT K H b ys→xs≠[]→xs.length+ys.length≤sizeLine→((ys=[]→Q (.ref a) H))→((ys≠[]→∀ p,H p=none→Q (.ref p) (upd H p (.tup (xs++ys)))))→rCatTI K x y H Q
def zo(K:PySem.W.Frag):R2:=fun x y H Q=>rCatTI K x y H Q
theorem aw.nil_iff{xs:List V}{us:List Value}(r:aw xs us):us=[]↔xs=[]:=by
 cases r with
 | nil=>simp
 | cons _ _=>simp
theorem vK:OpR X (binaryOp .Add) (zo X.K):=by
 intro pins s σ H x y v u Q I rx ry h
 obtain⟨a,b,xs,ys,rfl,rfl,ha,hb,hx,hz,q1,q2⟩:=h
 cases rx
 cases ry
 obtain⟨its,r1,p1,_⟩:=I.tuple ha
 obtain⟨its2,r2,p2,_⟩:=I.tuple hb
 refine HT.cat_tup p1 p2 (fun z=>hx (r1.nil_iff.mp z)) (fun z=>⟨.ref a,H,I,rfl,q1 (r2.nil_iff.mp z)⟩) (fun z=>?_) (by rw [← r1.length,← r2.length]; exact hz)
 refine⟨.ref s.heap.objs.size,_,I.laid (t':=s.toks) (o:=.tup (xs++ys)) (fun b ob q=>Heap.get?_push_of_some _ q) (Nat.le_refl _) ?_,rfl,q2 (fun w=>z (r2.nil_iff.mpr w)) _ (I.hok.fresh (Nat.le_refl _))⟩
 exact⟨by rw [List.length_append]; exact hz,_,r1.append r2,IsTup.new _ _⟩
end
def ixN(n:Nat)(i:Int):Option Nat:=if 0≤i then (if i<n then some i.toNat else none) else if -(n:Int)≤i then some (i+n).toNat else none
def atI{α:Type}(xs:List α)(i:Int):Option α:=(ixN xs.length i).bind fun j=>xs[j]?
theorem pj{n:Nat}{i:Int}{j:Nat}(h:ixN n i=some j):seqIndex? i n=some j∧j<n∧-(n:Int)≤i∧i<n:=by
 unfold ixN at h
 by_cases h0:0≤i
 ·rw [if_pos h0] at h
  by_cases h1:i<n
  ·rw [if_pos h1] at h
   have e:i.toNat=j:=Option.some.inj h
   exact⟨by rw [seqIndex_of h0 h1,e],by omega,by omega,h1⟩
  ·rw [if_neg h1] at h; cases h
 ·rw [if_neg h0] at h
  by_cases h1:-(n:Int)≤i
  ·rw [if_pos h1] at h
   have e:(i+n).toNat=j:=Option.some.inj h
   exact⟨by rw [seqIndex_neg (by omega) h1,e],by omega,h1,by omega⟩
  ·rw [if_neg h1] at h; cases h
theorem iq{α:Type}{xs:List α}{i:Int}{v:α}(h:atI xs i=some v):∃ j,seqIndex? i xs.length=some j∧xs[j]? = some v∧j<xs.length∧-(xs.length:Int)≤i∧i<xs.length:=by
 unfold atI at h
 cases e:ixN xs.length i with
 | none=>rw [e] at h; cases h
 | some j=>
  rw [e] at h
  obtain⟨h1,h2,h3,h4⟩:=pj e
  exact⟨j,h1,h,h2,h3,h4⟩
theorem pK{α:Type}{xs:List α}{j:Nat}{v:α}(h:xs[j]? = some v):atI xs (j:Int)=some v:=by
 have hj:j<xs.length:=(List.getElem?_eq_some_iff.mp h).1
 have e:ixN xs.length (j:Int)=some j:=by
  unfold ixN
  rw [if_pos (by omega),if_pos (by omega)]; simp
 unfold atI; rw [e]; exact h
def wV(b:Expr):Prop:=∀ o i,subscripted b false o i=operate [o,i] (getItem o i)
def IxR(X:Cx)(r:R2):Prop:=
 ∀ (value slice:Expr) (pins:List (Addr×Obj)) (s:Shared) (σ:St) (H:Hp) (x y:V) (v u:Value) (Q:VK),Inv X pins σ H s→az x v→az y u→r x y H Q→
  subscripted slice false v u=operate [v,u] (getItem v u)→wpAny (model X.prog X.w) X.A (subscriptTail value slice v u) (EP X pins σ Q) X.xe s
def MtR(X:Cx)(id:String)(r:V→List V→Hp→VK→Prop):Prop:=
 ∀ (pins:List (Addr×Obj)) (s:Shared) (σ:St) (H:Hp) (x:V) (xs:List V) (v:Value) (us:List Value) (Q:VK),Inv X pins σ H s→az x v→aw xs us→r x xs H Q→
  wpAny (model X.prog X.w) X.A (call (.builtin id) (v::us)) (EP X pins σ Q) X.xe s
section
variable{X:Cx}{a b:Expr}{ta tb:TE}{pos:Pos}
theorem IxR.or{r r':R2}(h:IxR X r)(h':IxR X r'):IxR X (fun x y H Q=>r x y H Q∨r' x y H Q):=by
 intro value slice pins s σ H x y v u Q I rx ry q hs
 rcases q with q | q
 ·exact h value slice pins s σ H x y v u Q I rx ry q hs
 ·exact h' value slice pins s σ H x y v u Q I rx ry q hs
theorem gc{r:R2}(hr:IxR X r)(ha:PE X a ta)(hb:PE X b tb)(hs:wV b):PE X (.Subscript a b pos) (tOp r ta tb):=by
 intro pins s σ H Q I h
 exact Subscript_ (yS ha hb I h fun v u s2 x y H2 I2 rx ry q=>hr a b pins s2 σ H2 x y v u Q I2 rx ry q (hs _ _))
inductive rIxLI(K:PySem.W.Frag)(x:V)(y:V)(H:Hp)(Q:VK):Prop where
 | mk:∀ p xs i v,x=.ref p→y=.int i→SqL K H p xs→atI xs i=some v→Q v H→rIxLI K x y H Q
def zm(K:PySem.W.Frag):R2:=fun x y H Q=>rIxLI K x y H Q
inductive rIxTI(K:PySem.W.Frag)(x:V)(y:V)(H:Hp)(Q:VK):Prop where
 | mk:∀ p xs i v,x=.ref p→y=.int i→SqT K H p xs→atI xs i=some v→Q v H→rIxTI K x y H Q
def zj(K:PySem.W.Frag):R2:=fun x y H Q=>rIxTI K x y H Q
inductive rIxSI(x:V)(y:V)(H:Hp)(Q:VK):Prop where
 | mk:∀ z i c,x=.str z→y=.int i→z.length≤sizeLine→atI z.cps.toList i=some c→Q (.str ⟨#[c]⟩) H→rIxSI x y H Q
def zk:R2:=fun x y H Q=>rIxSI x y H Q
theorem ix_list:IxR X (zm X.K):=by
 intro value slice pins s σ H x y v u Q I rx ry h hs
 obtain⟨p,xs,i,z,rfl,rfl,hq,he,q⟩:=h
 cases rx
 obtain⟨t,rfl⟩:=ry
 obtain⟨its,r,pl,hz⟩:=I.list hq
 obtain⟨j,h1,h2,h3,h4,h5⟩:=iq he
 obtain⟨w,ew,rw'⟩:=r.get h2
 have hl:=r.length
 have hn:=eG
 have fin:EP X pins σ Q w s:=⟨z,H,I,rw',q⟩
 by_cases h0:0≤i
 ·have hj:i.toNat=j:=by
   rw [seqIndex_of h0 h5] at h1
   exact Option.some.inj h1
  exact item_listR pl.isList h0 (by omega) (by rw [hj]; simpa using ew) fin hs
 ·have hj:(i+(its.toArray.size:Int)).toNat=j:=by
   rw [seqIndex_neg (by omega) h4] at h1
   rw [List.size_toArray,← hl]
   exact Option.some.inj h1
  exact subscriptTail_builtinR (x:=w) pl.isList.typeIs slot_list_getitem.lookup
   (wpAny_getItem_list_neg (Q:=fun r s'=>r=w∧EP X pins σ Q r s') pl.isList (by omega) (by rw [List.size_toArray] <;> omega) (by omega) (by rw [hj]; simpa using ew) ⟨rfl,fin⟩) hs
theorem ix_tup:IxR X (zj X.K):=by
 intro value slice pins s σ H x y v u Q I rx ry h hs
 obtain⟨p,xs,i,z,rfl,rfl,hq,he,q⟩:=h
 cases rx
 obtain⟨t,rfl⟩:=ry
 obtain⟨its,r,pl,hz⟩:=I.tuple hq
 obtain⟨j,h1,h2,h3,h4,h5⟩:=iq he
 obtain⟨w,ew,rw'⟩:=r.get h2
 have hl:=r.length
 have hn:=eG
 have fin:EP X pins σ Q w s:=⟨z,H,I,rw',q⟩
 exact subscriptTail_builtinR (x:=w) pl.typeIs slot_tuple_getitem.lookup
  (getItem_tuple (j:=j) (Q:=fun r s'=>r=w∧EP X pins σ Q r s') pl (by omega) (by omega) (by rw [List.size_toArray,← hl]; exact h1) (by simpa using ew) ⟨rfl,fin⟩) hs
theorem uv:IxR X zk:=by
 intro value slice pins s σ H x y v u Q I rx ry h hs
 obtain⟨z,i,c,rfl,rfl,hz,he,q⟩:=h
 obtain⟨t,rfl⟩:=rx
 obtain⟨t',rfl⟩:=ry
 obtain⟨j,h1,h2,h3,h4,h5⟩:=iq he
 have hl:z.cps.toList.length=z.length:=by simp [Str.length]
 rw [hl] at h1 h4 h5
 have hn:=eG
 exact tail_any (typeIs_str s z t) slot_str_getitem.lookup (getItem_str (c:=c) (by
  have e1:decide (i < -(2 ^ 63:Int))=false:=decide_eq_false (by omega)
  have e2:decide (i≥2 ^ 63)=false:=decide_eq_false (by omega)
  rw [e1,e2,Bool.or_false]) (by rw [h1]; simpa using h2) ⟨.str ⟨#[c]⟩,H,I.tok _,⟨_,rfl⟩,q⟩) hs
def rIx(K:PySem.W.Frag):R2:=fun x y H Q=>zm K x y H Q∨zj K x y H Q∨zk x y H Q
theorem yC:IxR X (rIx X.K):=ix_list.or (ix_tup.or uv)
theorem nU(its:List Value)(n j:Nat)(u:Value):Obj.mapSeq (·.setIfInBounds j u) {cls:=.type "list",data:=.seq its.toArray n}={cls:=.type "list",data:=.seq (its.set j u).toArray n}:=by
 simp [Obj.mapSeq]
theorem Inv.lst{pins:List (Addr×Obj)}{σ:St}{H:Hp}{s:Shared}{p:Addr}{xs:List V}(I:Inv X pins σ H s)(h:H p=some (.lst xs)):
  ∃ (its:List Value) (n:Nat),aw xs its∧s.heap.get? p=some {cls:=.type "list",data:=.seq its.toArray n}∧xs.length≤sizeLine:=by
 obtain⟨z,its,n,r,e⟩:=I.hok p _ h
 exact⟨its,n,r,e,z⟩
theorem Inv.lstUpd{pins:List (Addr×Obj)}{σ:St}{H:Hp}{s:Shared}{p:Addr}{xs ys:List V}{its its':List Value}{n n':Nat}{f:Obj→Obj}(I:Inv X pins σ H s)(h:H p=some (.lst xs))
  (ho:s.heap.get? p=some {cls:=.type "list",data:=.seq its.toArray n}) (hf:f {cls:=.type "list",data:=.seq its.toArray n}={cls:=.type "list",data:=.seq its'.toArray n'}) (r:aw ys its') (hz:ys.length≤sizeLine) (t:Nat) :
  Inv X pins σ (upd H p (.lst ys)) {s with heap:=s.heap.update p f,toks:=t}:=by
 have e:(s.heap.update p f).get? p=some {cls:=.type "list",data:=.seq its'.toArray n'}:=by
  rw [Heap.get?_update_self f ho (by rw [hf] <;> rfl),hf]
 refine I.write (x:=p) (e:=p) (by rw [h]; trivial) (.inl rfl) (fun b u hb q=>(Heap.get?_update_other _ _ (Ne.symm hb)).trans q) ⟨_,e⟩ ?_
 exact⟨hz,its',n',r,e⟩
inductive rSetLI(o:V)(i:V)(v:V)(H:Hp)(Q:(Hp→Prop)):Prop where
 | mk:∀ p xs k j,o=.ref p→i=.int k→H p=some (.lst xs)→ixN xs.length k=some j→Q (upd H p (.lst (xs.set j v)))→rSetLI o i v H Q
def zi:V→V→V→Hp→(Hp→Prop)→Prop:=fun o i v H Q=>rSetLI o i v H Q
theorem ls:yV X zi:=by
 intro pins s σ H o i v ov iv u Q I ro ri rv h
 obtain⟨p,xs,k,j,rfl,rfl,hp,hj,q⟩:=h
 cases ro
 obtain⟨t,rfl⟩:=ri
 obtain⟨its,n,r,ho,hz⟩:=I.lst hp
 obtain⟨h1,h2,h3,h4⟩:=pj hj
 have hl:=r.length
 have hn:=eG
 have I':Inv X pins σ (upd H p (.lst (xs.set j v))) {s with heap:=s.heap.update p (Obj.mapSeq (·.setIfInBounds j u))}:=
  I.lstUpd hp ho (nU its n j u) (r.set rv j) (by rw [List.length_set]; exact hz) s.toks
 by_cases h0:0≤k
 ·have hk:k.toNat=j:=by
   rw [seqIndex_of h0 h4] at h1
   exact Option.some.inj h1
  exact PySem.W.ki_setAt ho h0 (by omega) (by rw [List.size_toArray,← hl]; exact h4) (by rw [hk]; exact⟨_,I',q⟩)
 ·have hk:(k+(its.toArray.size:Int)).toNat=j:=by
   rw [seqIndex_neg (by omega) h3] at h1
   rw [List.size_toArray,← hl]
   exact Option.some.inj h1
  exact PySem.W.ki_setBack ho (by omega) (by rw [List.size_toArray,← hl]; exact h3) (by omega) (by rw [hk]; exact⟨_,I',q⟩)
theorem kj(lo hi:Option Int)(n:Nat):(sliceBounds lo hi none n).1=((HT.sIx n 0 lo:Nat):Int)∧(sliceBounds lo hi none n).2.1=((HT.sIx n n hi:Nat):Int)∧(sliceBounds lo hi none n).2.2=1:=by
 refine⟨?_,?_,rfl⟩
 ·cases lo with
  | none=>simp [sliceBounds,HT.sIx]
  | some i=>
   simp only [sliceBounds,HT.sIx,Option.getD_none,show (1:Int) > 0 by decide,if_true]
   by_cases h:i<0
   ·simp only [h,if_true] <;> omega
   ·simp only [h,if_false] <;> omega
 ·cases hi with
  | none=>simp [sliceBounds,HT.sIx]
  | some i=>
   simp only [sliceBounds,HT.sIx,Option.getD_none,show (1:Int) > 0 by decide,if_true]
   by_cases h:i<0
   ·simp only [h,if_true] <;> omega
   ·simp only [h,if_false] <;> omega
theorem je(its:List Value)(lo hi:Option Int):slicePick its.toArray lo hi none=((its.drop (HT.sIx its.length 0 lo)).take (HT.sIx its.length its.length hi-HT.sIx its.length 0 lo)).toArray:=by
 obtain⟨h1,h2,h3⟩:=kj lo hi its.toArray.size
 unfold slicePick
 rw [h1,h2,h3]
 simp only [sliceRange_one,pick_run,List.size_toArray] <;> rfl
inductive rSlLI(K:PySem.W.Frag)(x:V)(lo:Option Int)(hi:Option Int)(H:Hp)(Q:VK):Prop where
 | mk:∀ a xs,x=.ref a→SqL K H a xs→(∀ p,H p=none→Q (.ref p) (upd H p (.lst (gl xs lo hi))))→rSlLI K x lo hi H Q
def AA(K:PySem.W.Frag):V→Option Int→Option Int→Hp→VK→Prop:=fun x lo hi H Q=>rSlLI K x lo hi H Q
theorem u8:SlR X (AA X.K):=by
 intro pins s σ H x v vl vu lo hi sl Q I rx hs pl pu h
 obtain⟨a,xs,rfl,hx,q⟩:=h
 cases rx
 obtain⟨its,r,ht,hz⟩:=I.list hx
 have hlen:=r.length
 refine⟨"list",_,slot_list_getitem.lookup,ht.isList.typeIs,?_⟩
 refine wpAny_getItem_list_slice ht.isList hs pl pu .none (by simp) ?_ (by rw [List.size_toArray] <;> omega)
 rw [je,← hlen]
 refine⟨.ref s.heap.objs.size,_,I.laid (t':=s.toks) (o:=.lst (gl xs lo hi)) (fun b ob q=>Heap.get?_push_of_some _ q) (Nat.le_refl _) ?_,rfl,q _ (I.hok.fresh (Nat.le_refl _))⟩
 exact⟨Nat.le_trans (hU xs lo hi) hz,_,0,(r.drop (HT.sIx xs.length 0 lo)).take (HT.sIx xs.length xs.length hi-HT.sIx xs.length 0 lo),Heap.get?_push_size _ rfl⟩
def eI:V→Bool
 | .non=>true
 | .bl _=>true
 | .int _=>true
 | .str _=>true
 | _=>false
def eqV:V→V→Bool
 | .non,.non=>true
 | .bl a,.bl b=>a==b
 | .bl a,.int b=>(if a then 1 else 0)==b
 | .int a,.bl b=>a==(if b then 1 else 0)
 | .int a,.int b=>a==b
 | .str a,.str b=>a==b
 | _,_=>false
theorem yL{A:Around}{s:Shared}{y x:V}{u v:Value}(ry:az y u)(rx:az x v)(fy:eI y=true)(fx:eI x=true):SeqAt.EqAt A s u v (eqV y x):=by
 cases y with
 | non=>
  cases ry
  cases x with
  | non=>cases rx; exact SeqAt.EqAt.same _
  | bl b=>cases rx; exact SeqAt.EqAt.none_bool b
  | int b=>obtain⟨t,rfl⟩:=rx; exact SeqAt.EqAt.none_int b t
  | str b=>obtain⟨t,rfl⟩:=rx; exact SeqAt.EqAt.none_str b t
  | _=>exact absurd (show false=true from fx) Bool.false_ne_true
 | bl a=>
  cases ry
  cases x with
  | non=>cases rx; exact SeqAt.EqAt.bool_none a
  | bl b=>cases rx; exact SeqAt.EqAt.bool_bool a b
  | int b=>obtain⟨t,rfl⟩:=rx; exact SeqAt.EqAt.bool_int a b t
  | str b=>obtain⟨t,rfl⟩:=rx; exact SeqAt.EqAt.bool_str a b t
  | _=>exact absurd (show false=true from fx) Bool.false_ne_true
 | int a=>
  obtain⟨t',rfl⟩:=ry
  cases x with
  | non=>cases rx; exact SeqAt.EqAt.int_none a t'
  | bl b=>cases rx; exact SeqAt.EqAt.int_bool a t' b
  | int b=>obtain⟨t,rfl⟩:=rx; exact SeqAt.EqAt.int_int a t' b t
  | str b=>obtain⟨t,rfl⟩:=rx; exact SeqAt.EqAt.int_str a t' b t
  | _=>exact absurd (show false=true from fx) Bool.false_ne_true
 | str a=>
  obtain⟨t',rfl⟩:=ry
  cases x with
  | non=>cases rx; exact SeqAt.EqAt.str_none a t'
  | bl b=>cases rx; exact SeqAt.EqAt.str_bool a t' b
  | int b=>obtain⟨t,rfl⟩:=rx; exact SeqAt.EqAt.str_int a t' b t
  | str b=>obtain⟨t,rfl⟩:=rx; exact SeqAt.EqAt.str_str a t' b t
  | _=>exact absurd (show false=true from fx) Bool.false_ne_true
 | _=>exact absurd (show false=true from fy) Bool.false_ne_true
def eqU(x:V)(u:Value):Bool:=match u with
 | .none=>eqV .non x
 | .bool b=>eqV (.bl b) x
 | .int i _=>eqV (.int i) x
 | .str z _=>eqV (.str z) x
 | _=>false
theorem uH{x y:V}{u:Value}(r:az y u)(f:eI y=true):eqU x u=eqV y x:=by
 cases y with
 | non=>cases r; rfl
 | bl b=>cases r; rfl
 | int i=>obtain⟨t,rfl⟩:=r; rfl
 | str z=>obtain⟨t,rfl⟩:=r; rfl
 | _=>exact absurd (show false=true from f) Bool.false_ne_true
theorem gp{x:V}:∀ {xs:List V} {us:List Value},aw xs us→xs.all eI=true→us.any (eqU x)=xs.any fun y=>eqV y x
 | _,_,.nil,_=>rfl
 | y::xs,u::us,.cons r t,f=>by
  rw [List.all_cons,Bool.and_eq_true] at f
  rw [List.any_cons,List.any_cons,uH r f.1,gp t f.2]
theorem eC{A:Around}{s:Shared}{x:V}{v:Value}(rx:az x v)(fx:eI x=true):∀ {xs:List V} {us:List Value},aw xs us→xs.all eI=true→∀ u∈us,SeqAt.EqAt A s u v (eqU x u)
 | _,_,.nil,_=>fun u hu=>by cases hu
 | y::xs,u::us,.cons r t,f=>fun u' hu=>by
  rw [List.all_cons,Bool.and_eq_true] at f
  rcases List.mem_cons.mp hu with rfl | hu
  ·rw [uH r f.1]; exact yL r rx f.1 fx
  ·exact eC rx fx t f.2 u' hu
def inV(x:V)(xs:List V):Bool:=xs.any fun y=>eqV y x
inductive rInI(K:PySem.W.Frag)(neg:Bool)(x:V)(y:V)(H:Hp)(Q:VK):Prop where
 | mk:∀ p xs,y=.ref p→((SqL K H p xs∨SqT K H p xs))→eI x=true→xs.all eI=true→(Q (.bl (if neg then !inV x xs else inV x xs)) H)→rInI K neg x y H Q
def rIn(K:PySem.W.Frag)(neg:Bool):R2:=fun x y H Q=>rInI K neg x y H Q
theorem qg:OpR X (compareOp .In) (rIn X.K false):=by
 intro pins s σ H x y v u Q I rx ry h
 obtain⟨p,xs,rfl,hq,fx,fs,q⟩:=h
 cases ry
 rcases hq with hq | hq
 ·obtain⟨its,r,pl,hz⟩:=I.list hq
  refine SeqAt.in_listAt (eqU x) pl.isList (fun w hw=>eC rx fx r fs w (by simpa using hw)) ⟨.bl _,H,I,rfl,?_⟩
  rw [show its.toArray.any (eqU x)=its.any (eqU x) by simp,gp r fs]
  exact q
 ·obtain⟨its,r,pl,hz⟩:=I.tuple hq
  refine SeqAt.in_tupleAt (eqU x) pl (fun w hw=>eC rx fx r fs w (by simpa using hw)) ⟨.bl _,H,I,rfl,?_⟩
  rw [show its.toArray.any (eqU x)=its.any (eqU x) by simp,gp r fs]
  exact q
theorem kE:OpR X (compareOp .NotIn) (rIn X.K true):=by
 intro pins s σ H x y v u Q I rx ry h
 obtain⟨p,xs,rfl,hq,fx,fs,q⟩:=h
 cases ry
 rcases hq with hq | hq
 ·obtain⟨its,r,pl,hz⟩:=I.list hq
  refine SeqAt.notIn_listAt (eqU x) pl.isList (fun w hw=>eC rx fx r fs w (by simpa using hw)) ⟨.bl _,H,I,rfl,?_⟩
  rw [show its.toArray.any (eqU x)=its.any (eqU x) by simp,gp r fs]
  exact q
 ·obtain⟨its,r,pl,hz⟩:=I.tuple hq
  refine SeqAt.notIn_tupleAt (eqU x) pl (fun w hw=>eC rx fx r fs w (by simpa using hw)) ⟨.bl _,H,I,rfl,?_⟩
  rw [show its.toArray.any (eqU x)=its.any (eqU x) by simp,gp r fs]
  exact q
inductive rCall_len_seqI(K:PySem.W.Frag)(xs:List V)(H:Hp)(Q:VK):Prop where
 | mk:∀ p ys,xs=[.ref p]→((SqL K H p ys∨SqT K H p ys))→Q (.int ys.length) H→rCall_len_seqI K xs H Q
theorem dR:cv X (.builtin "len") (fun xs H Q=>rCall_len_seqI X.K xs H Q):=by
 intro pins s σ H xs us Q I r h
 obtain⟨p,ys,rfl,hq,q⟩:=h
 obtain⟨u,rfl,rx⟩:=ci r
 cases rx
 have hn:=eG
 rcases hq with hq | hq
 ·obtain⟨its,r',pl,hz⟩:=I.list hq
  have hlen:=r'.length
  exact Calls.call_len_list pl.isList (by simp only [List.size_toArray] <;> omega) ⟨.int ys.length,H,I.tok _,⟨s.toks+1,by rw [List.size_toArray,hlen]⟩,q⟩
 ·obtain⟨its,r',pl,hz⟩:=I.tuple hq
  have hlen:=r'.length
  exact len_tuple pl (by simp only [List.size_toArray] <;> omega) ⟨.int ys.length,H,I.tok _,⟨s.toks+1,by rw [List.size_toArray,hlen]⟩,q⟩
inductive rCall_len_strI(xs:List V)(H:Hp)(Q:VK):Prop where
 | mk:∀ z,xs=[.str z]→z.length≤sizeLine→Q (.int z.length) H→rCall_len_strI xs H Q
theorem kO:cv X (.builtin "len") (fun xs H Q=>rCall_len_strI xs H Q):=by
 intro pins s σ H xs us Q I r h
 obtain⟨z,rfl,hz,q⟩:=h
 obtain⟨u,rfl,t,rfl⟩:=ci r
 have hn:=eG
 exact len_str (by omega) ⟨.int z.length,H,I.tok _,⟨_,rfl⟩,q⟩
inductive rCall_list_ofI(K:PySem.W.Frag)(xs:List V)(H:Hp)(Q:VK):Prop where
 | mk:∀ p ys,xs=[.ref p]→((SqL K H p ys∨SqT K H p ys))→(∀ l,H l=none→Q (.ref l) (upd H l (.lst ys)))→rCall_list_ofI K xs H Q
theorem kN:cv X (.type "list") (fun xs H Q=>rCall_list_ofI X.K xs H Q):=by
 intro pins s σ H xs us Q I r h
 obtain⟨p,ys,rfl,hq,q⟩:=h
 obtain⟨u,rfl,rx⟩:=ci r
 cases rx
 have fin:∀ (its:List Value),aw ys its→ys.length≤sizeLine→∀ (h':Heap) (c':Nat),(∀ b o',s.heap.get? b=some o'→h'.get? b=some o')→
   h'.get? s.heap.objs.size=some {cls:=.type "list",dict:=none,data:=.seq its.toArray c',slots:=#[]}→EP X pins σ Q (.ref s.heap.objs.size) {s with heap:=h'}:=fun its r' hz h' c' kp e=>
  ⟨.ref s.heap.objs.size,_,I.laid (t':=s.toks) kp (Nat.le_refl _) (show aF X.prog X.w _ h' _ (.lst ys) from ⟨hz,its,c',r',e⟩),rfl,q _ (I.hok.fresh (Nat.le_refl _))⟩
 rcases hq with hq | hq
 ·obtain⟨its,r',pl,hz⟩:=I.list hq
  have hlen:=r'.length
  obtain⟨o,ho,hc,n,hd⟩:=pl.isList
  exact call_list_seq p (.inl rfl) ho hc hd (fun h' c' kp e=>fin its r' hz h' c' kp e) (by simp only [List.size_toArray] <;> omega)
 ·obtain⟨its,r',pl,hz⟩:=I.tuple hq
  have hlen:=r'.length
  obtain⟨o,ho,hc,n,hd⟩:=pl
  exact call_list_seq p (.inr rfl) ho hc hd (fun h' c' kp e=>fin its r' hz h' c' kp e) (by simp only [List.size_toArray] <;> omega)
inductive rCall_tuple_ofI(K:PySem.W.Frag)(xs:List V)(H:Hp)(Q:VK):Prop where
 | mk:∀ p ys,xs=[.ref p]→(((SqL K H p ys∧∀ l,H l=none→Q (.ref l) (upd H l (.tup ys)))∨(SqT K H p ys∧Q (.ref p) H)))→rCall_tuple_ofI K xs H Q
theorem ji:cv X (.type "tuple") (fun xs H Q=>rCall_tuple_ofI X.K xs H Q):=by
 intro pins s σ H xs us Q I r h
 obtain⟨p,ys,rfl,h⟩:=h
 obtain⟨u,rfl,rx⟩:=ci r
 cases rx
 rcases h with ⟨hq,q⟩ | ⟨hq,q⟩
 ·obtain⟨its,r',pl,hz⟩:=I.list hq
  have hlen:=r'.length
  refine call_tuple_list pl.isList (fun h' kp=>?_) (by simp only [List.size_toArray] <;> omega)
  have I1:Inv X pins σ H {s with heap:=h'}:=I.kept (t':=s.toks) kp
  have I2:Inv X pins σ (upd H h'.objs.size (.tup ys)) {s with heap:=h'.push {cls:=.type "tuple",data:=.seq its.toArray}}:=
   I1.laid (t':=s.toks) (fun b o e=>Heap.get?_push_of_some _ e) (Nat.le_refl _) (show aF X.prog X.w _ _ _ (.tup ys) from ⟨hz,its,r',IsTup.new _ _⟩)
  exact⟨.ref h'.objs.size,_,I2,rfl,q _ (I1.hok.fresh (Nat.le_refl _))⟩
 ·obtain⟨its,r',pl,hz⟩:=I.tuple hq
  exact call_tuple_same pl ⟨.ref p,H,I,rfl,q⟩
def tyV(K:PySem.W.Frag)(T:String)(x:V)(H:Hp):Prop:=match x with
 | .str _=>T="str"
 | .int _=>T="int"
 | .ref p=>(T="list"∧∃ xs,SqL K H p xs)∨(T="tuple"∧∃ o,K.lookup p=some o∧o.cls=.type "tuple"∧o.dict=none)∨
   (T="dict"∧((∃ kvs,H p=some (.dK kvs))∨∃ kvs,H p=some (.dT kvs)))∨(T="set"∧∃ S n,H p=some (.set S n))
 | _=>False
theorem rk{pins:List (Addr×Obj)}{σ:St}{H:Hp}{s:Shared}{T:String}{x:V}{v:Value}(I:Inv X pins σ H s)(r:az x v)(ty:tyV X.K T x H):
  s.TypeIs v T∧∀ a,v=.ref a→∃ ob,s.heap.get? a=some ob∧ob.dict=none:=by
 cases x with
 | str z=>
  obtain⟨t,rfl⟩:=r
  cases (show T="str" from ty)
  exact⟨typeIs_str s z t,fun _ e=>nomatch e⟩
 | int i=>
  obtain⟨t,rfl⟩:=r
  cases (show T="int" from ty)
  exact⟨typeIs_int s i t,fun _ e=>nomatch e⟩
 | ref p=>
  cases r
  rcases ty with ⟨rfl,xs,hq⟩ | ⟨rfl,o,hk,hc,hd⟩ | ⟨rfl,hk⟩ | ⟨rfl,S,n,hk⟩
  ·obtain⟨its,_,pl,_⟩:=I.list hq
   refine⟨pl.isList.typeIs,fun a e=>?_⟩
   cases e
   obtain⟨o,n,e,c,hd,_⟩:=pl
   exact⟨o,e,hd⟩
  ·refine⟨⟨o,I.kIn p o hk,hc⟩,fun a e=>?_⟩
   cases e
   exact⟨o,I.kIn _ o hk,hd⟩
  ·have z:∃ o,s.heap.get? p=some o∧o.ExactDict:=by
    rcases hk with ⟨kvs,hk⟩ | ⟨kvs,hk⟩
    ·obtain⟨_,_,_,_,o,_,_,e,ex,_⟩:=I.hok p _ hk
     exact⟨o,e,ex⟩
    ·obtain⟨_,_,_,_,o,_,_,e,ex,_⟩:=I.hok p _ hk
     exact⟨o,e,ex⟩
   obtain⟨o,e,ex⟩:=z
   refine⟨⟨o,e,ex.1⟩,fun a e2=>?_⟩
   cases e2
   exact⟨o,e,ex.2.1⟩
  ·obtain⟨o,_,_,_,e,ex,_⟩:=I.hok p _ hk
   refine⟨⟨o,e,ex.1⟩,fun a e2=>?_⟩
   cases e2
   exact⟨o,e,ex.2.1⟩
 | _=>exact False.elim ty
def Aw(K:PySem.W.Frag)(T:String)(r:V→List V→Hp→VK→Prop)(to:TE):TE:=fun σ H Q=>to σ H fun x H1=>tyV K T x H1∧r x [] H1 Q
def tBM(K:PySem.W.Frag)(T:String)(r:V→List V→Hp→VK→Prop)(to:TE)(t:TA):TE:=fun σ H Q=>to σ H fun x H1=>tyV K T x H1∧t σ H1 fun xs H2=>r x xs H2 Q
variable{o e:Expr}{es:List Expr}{to:TE}{t:TA}{name:Str}{apos cpos:Pos}{T id:String}{r:V→List V→Hp→VK→Prop}
theorem nG(pa:PlainAttrs T)(slot:Slot T name id)(hty:typeOf (.builtin id)=pure (.type "method_descriptor"))(hm:MtR X id r)(ho:PE X o to)
  (hbase:attributeBase o name X.env (eval o X.env)=eval o X.env:=by rfl) (hline:(apos.endLine==cpos.line)=true:=by rfl):PE X (.Call (.Attribute o name apos) [] [] cpos) (Aw X.K T r to):=by
 intro pins s σ H Q I h
 refine wpAny_Call_method0_late hbase hline (thn (ho pins s σ H _ I h) fun v s1 ⟨x,H1,I1,r1,ty,q1⟩=>?_)
 obtain⟨h1,h2⟩:=rk I1 r1 ty
 exact⟨T,id,pa,slot,hty,h1,h2,Calls.callWith_builtin rfl (PySem.evalArgs_none (hm pins s1 σ H1 x [] v [] Q I1 r1 .nil q1))⟩
theorem eA(pa:PlainAttrs T)(slot:Slot T name id)(hty:typeOf (.builtin id)=pure (.type "method_descriptor"))(hm:MtR X id r)(ho:PE X o to)(ha:PA X (e::es) t)
  (hbase:attributeBase o name X.env (eval o X.env)=eval o X.env:=by rfl)
  (hfew:((backTo cpos (starEach (e::es) X.env)).all (fun x=>!x.1)&&(backToKw cpos (keywordEach [] X.env)).all (fun x=>x.1.isSome)
   && decide ((e::es).length+([]:List Keyword).length+(if ([]:List Keyword).isEmpty then 0 else 1)<30))=true:=by rfl)
  (hline:(apos.endLine==cpos.line)=true:=by rfl) (hs:starEach (e::es) X.env=(false,eval e X.env)::starEach es X.env:=by rfl) (hplain:(backTo cpos (starEach es X.env)).any (·.1)=false:=by rfl) :
  PE X (.Call (.Attribute o name apos) (e::es) [] cpos) (tBM X.K T r to t):=by
 intro pins s σ H Q I h
 refine wpAny_Call_method_late hbase hfew hline rfl (thn (ho pins s σ H _ I h) fun v s1 ⟨x,H1,I1,r1,ty,q1⟩=>?_)
 obtain⟨h1,h2⟩:=rk I1 r1 ty
 refine⟨T,id,pa,slot,hty,h1,h2,?_⟩
 have hA:=ha cpos pins s1 σ H1 _ I1 q1
 rw [hs] at hA ⊢
 refine Calls.callWith_builtin (by show (false||(backTo cpos (starEach es X.env)).any (·.1))=false; rw [hplain] <;> rfl) (Calls.evalArgs_plain ?_)
 exact thn hA fun us s2 ⟨vs,H2,I2,r2,q2⟩=>hm pins s2 σ H2 x vs v us Q I2 r1 r2 q2
end
def MtM(X:Cx)(id:String)(r:V→List V→Hp→VK→Prop):Prop:=
 ∀ (pins:List (Addr×Obj)) (s:Shared) (σ:St) (H:Hp) (x:V) (xs:List V) (v:Value) (us:List Value) (Q:VK),Inv X pins σ H s→az x v→aw xs us→r x xs H Q→
  wpAny (model X.prog X.w) X.A (call (.builtin id) (v::us)) (EP X pins σ Q) X.xe s
theorem aw.one:∀ {x:V} {us:List Value},aw [x] us→∃ u,us=[u]∧az x u
 | _,_,.cons r .nil=>⟨_,rfl,r⟩
theorem aw.zero:∀ {us:List Value},aw [] us→us=[]
 | _,.nil=>rfl
theorem aw.dropLast{xs:List V}{us:List Value}(h:aw xs us):aw xs.dropLast us.dropLast:=by
 induction h with
 | nil=>exact .nil
 | cons r t ih=>
  cases t with
  | nil=>exact .nil
  | cons q t'=>exact .cons r ih
theorem aw.eraseIdx:∀ {xs:List V} {us:List Value} (i:Nat),aw xs us→aw (xs.eraseIdx i) (us.eraseIdx i)
 | _,_,_,.nil=>.nil
 | _,_,0,.cons _ t=>t
 | _,_,i+1,.cons r t=>.cons r (aw.eraseIdx i t)
theorem aw.rep{xs:List V}{us:List Value}(h:aw xs us):∀ k:Nat,aw (List.replicate k xs).flatten (List.replicate k us).flatten
 | 0=>.nil
 | k+1=>by
  rw [List.replicate_succ,List.replicate_succ,List.flatten_cons,List.flatten_cons]
  exact aw.append h (aw.rep h k)
theorem oj{α:Type}(l:List α):l.eraseIdx (l.length-1)=l.dropLast:=by
 induction l with
 | nil=>rfl
 | cons a r ih=>
  cases r with
  | nil=>rfl
  | cons b r=>
   have e:(a::b::r).length-1=((b::r).length-1)+1:=by
    have h1:(a::b::r).length=r.length+2:=rfl
    have h2:(b::r).length=r.length+1:=rfl
    omega
   rw [e,List.eraseIdx_cons_succ,ih]
   all_goals rfl
theorem jJ{α:Type}:∀ (l:List α) (i:Nat),(l.eraseIdx i).length≤l.length
 | [],_=>Nat.le_refl _
 | _::_,0=>Nat.le_succ _
 | _::r,i+1=>Nat.succ_le_succ (jJ r i)
theorem jP(its:List Value):∀ (k:Nat) (acc:List Value),
  List.foldl (fun x1 x2=>x1++x2) acc.toArray (List.replicate k its.toArray)=(acc++(List.replicate k its).flatten).toArray
 | 0,acc=>by simp
 | k+1,acc=>by
  have e:acc.toArray++its.toArray=(acc++its).toArray:=by simp
  have e2:(acc++its)++(List.replicate k its).flatten=acc++(List.replicate (k+1) its).flatten:=by
   rw [List.replicate_succ,List.flatten_cons,List.append_assoc]
  rw [← e2,← jP its k (acc++its),← e,List.replicate_succ,List.foldl_cons]
section
variable{X:Cx}{pins:List (Addr×Obj)}{σ:St}{H:Hp}{s:Shared}{l b:Addr}{xs ys zs:List V}
theorem Inv.lset{its its':List Value}{n:Nat}{f:Array Value→Array Value}{t':Nat}(I:Inv X pins σ H s)(hH:H l=some (.lst xs))
  (e:s.heap.get? l=some {cls:=.type "list",data:=.seq its.toArray n}) (hf:f its.toArray=its'.toArray) (hv:aw ys its') (hz:ys.length≤sizeLine) :
  Inv X pins σ (upd H l (.lst ys)) {s with heap:=s.heap.update l (Obj.mapSeq f),toks:=t'}:=by
 have q:=PySem.IsL.update e f
 rw [hf] at q
 refine I.write (x:=l) (e:=l) (by rw [hH]; exact trivial) (.inl rfl) (fun b' u hb hu=>(Heap.get?_update_other s.heap (Obj.mapSeq f) (Ne.symm hb)).trans hu) ⟨_,q⟩ ?_
 exact⟨hz,its',_,hv,q⟩
theorem Inv.lnew{its:List Value}{t':Nat}(I:Inv X pins σ H s)(hv:aw ys its)(hz:ys.length≤sizeLine):
  Inv X pins σ (upd H s.heap.objs.size (.lst ys)) {s with heap:=s.heap.push {cls:=.type "list",data:=.seq its.toArray},toks:=t'}:=
 I.laid (fun _ _ q=>Heap.get?_push_of_some _ q) (Nat.le_refl _) ⟨hz,its,0,hv,Heap.get?_push_size _ rfl⟩
theorem Inv.fresh(I:Inv X pins σ H s):H s.heap.objs.size=none:=I.hok.fresh (Nat.le_refl _)
theorem Inv.lstM(I:Inv X pins σ H s)(hH:H l=some (.lst xs)):xs.length≤sizeLine∧∃ (its:List Value) (n:Nat),aw xs its∧xs.length=its.length∧s.heap.get? l=some {cls:=.type "list",data:=.seq its.toArray n}:=by
 obtain⟨z,its,n,r,e⟩:=I.hok l _ hH
 exact⟨z,its,n,r,r.length,e⟩
theorem lV{n:Nat}(h:n≤sizeLine):Builtin.List.listTooLong n=false:=by
 unfold Builtin.List.listTooLong
 exact decide_eq_false (by omega)
end
section
variable{X:Cx}
inductive rAppendI(x:V)(vs:List V)(H:Hp)(Q:VK):Prop where
 | mk:∀ l xs y,x=.ref l→vs=[y]→H l=some (.lst xs)→xs.length<sizeLine→Q .non (upd H l (.lst (xs++[y])))→rAppendI x vs H Q
def vm:V→List V→Hp→VK→Prop:=fun x vs H Q=>rAppendI x vs H Q
theorem eN:MtM X "list.append" vm:=by
 intro pins s σ H x vs v us Q I rx rv h
 obtain⟨l,xs,y,rfl,rfl,hH,hz,q⟩:=h
 cases rx
 obtain⟨u,rfl,ru⟩:=rv.one
 obtain⟨z,its,n,r,hl,e⟩:=I.lstM hH
 refine call_meets F.slot_list_append ⟨_,e,rfl⟩ F.entry_list_append (F.args_list_append_2 _ _) (PySem.list_append l its.toArray n u (by rw [List.size_toArray]; omega)) ⟨e,?_⟩
 refine⟨.non,_,I.lset (its':=its++[u]) hH e (by simp) (r.append (.cons ru .nil)) ?_,rfl,q⟩
 rw [List.length_append,List.length_singleton]
 omega
inductive rExtendI(x:V)(vs:List V)(H:Hp)(Q:VK):Prop where
 | mk:∀ l b xs zs,x=.ref l→vs=[.ref b]→H l=some (.lst xs)→H b=some (.lst zs)→xs.length+zs.length≤sizeLine→Q .non (upd H l (.lst (xs++zs)))→rExtendI x vs H Q
def vk:V→List V→Hp→VK→Prop:=fun x vs H Q=>rExtendI x vs H Q
theorem qt:MtM X "list.extend" vk:=by
 intro pins s σ H x vs v us Q I rx rv h
 obtain⟨l,b,xs,zs,rfl,rfl,hH,hB,hz,q⟩:=h
 cases rx
 obtain⟨u,rfl,ru⟩:=rv.one
 cases ru
 obtain⟨z,its,n,r,hl,e⟩:=I.lstM hH
 obtain⟨z2,its2,n2,r2,hl2,e2⟩:=I.lstM hB
 have hsz:its.toArray.size+its2.toArray.size≤sizeLine:=by rw [List.size_toArray,List.size_toArray]; omega
 have hlong:¬ (!its.toArray.isEmpty&&Builtin.List.listTooLong (its.toArray.size+its2.toArray.size))=true:=by
  rw [lV hsz,Bool.and_false]
  exact Bool.false_ne_true
 refine call_meets F.slot_list_extend ⟨_,e,rfl⟩ F.entry_list_extend (F.args_list_extend_2 _ _)
  (AutoSeq1.list_extend_list_list_0 l its.toArray n b its2.toArray n2 hlong (by rw [List.size_toArray]; omega) (by omega)) ⟨e,e2,?_⟩
 refine⟨.non,_,I.lset (its':=its++its2) hH e (by simp) (r.append r2) ?_,rfl,q⟩
 rw [List.length_append]
 omega
inductive rPopI(x:V)(vs:List V)(H:Hp)(Q:VK):Prop where
 | mk:∀ l xs y,x=.ref l→vs=[]→H l=some (.lst xs)→xs[xs.length-1]? = some y→Q y (upd H l (.lst xs.dropLast))→rPopI x vs H Q
def AC:V→List V→Hp→VK→Prop:=fun x vs H Q=>rPopI x vs H Q
theorem uf:MtM X "list.pop" AC:=by
 intro pins s σ H x vs v us Q I rx rv h
 obtain⟨l,xs,y,rfl,rfl,hH,hy,q⟩:=h
 cases rx
 have hus:=rv.zero
 subst hus
 obtain⟨z,its,n,r,hl,e⟩:=I.lstM hH
 obtain⟨u,hu,ru⟩:=r.get hy
 have hy':its.toArray[its.toArray.size-1]? = some u:=by
  show its.toArray[its.length-1]? = some u
  rw [← Array.getElem?_toList,← hl]
  exact hu
 refine call_meets F.slot_list_pop ⟨_,e,rfl⟩ F.entry_list_pop (F.args_list_pop_1 _) (MeetsSeq.list_pop_last l its.toArray n u hy' (by rw [List.size_toArray]; omega)) ⟨e,?_⟩
 refine⟨y,_,I.lset (its':=its.dropLast) hH e ?_ r.dropLast ?_,ru,q⟩
 ·show its.toArray.eraseIdxIfInBounds (its.toArray.size-1)=its.dropLast.toArray
  rw [List.size_toArray,List.eraseIdxIfInBounds_toArray,oj]
 ·rw [List.length_dropLast]
  omega
inductive rPopAtI(x:V)(vs:List V)(H:Hp)(Q:VK):Prop where
 | mk:∀ l xs i k y,x=.ref l→vs=[.int i]→H l=some (.lst xs)→-(2 ^ 63)≤i→i<2 ^ 63→seqIndex? i xs.length=some k→xs[k]? = some y→Q y (upd H l (.lst (xs.eraseIdx k)))→rPopAtI x vs H Q
def xI:V→List V→Hp→VK→Prop:=fun x vs H Q=>rPopAtI x vs H Q
theorem ue:MtM X "list.pop" xI:=by
 intro pins s σ H x vs v us Q I rx rv h
 obtain⟨l,xs,i,k,y,rfl,rfl,hH,h1,h2,hk,hy,q⟩:=h
 cases rx
 obtain⟨u,rfl,ru⟩:=rv.one
 obtain⟨t,rfl⟩:=ru
 obtain⟨z,its,n,r,hl,e⟩:=I.lstM hH
 obtain⟨w,hw,rw'⟩:=r.get hy
 refine call_meets F.slot_list_pop ⟨_,e,rfl⟩ F.entry_list_pop (F.args_list_pop_2 _ _)
  (MeetsSeq.list_pop_at l its.toArray n i t k w (fitsIndex_both h1 h2) (by rw [List.size_toArray,← hl]; exact hk) (by rw [← Array.getElem?_toList]; exact hw) (by rw [List.size_toArray]; omega)) ⟨e,?_⟩
 refine⟨y,_,I.lset (its':=its.eraseIdx k) hH e ?_ (r.eraseIdx k) ?_,rw',q⟩
 ·show its.toArray.eraseIdxIfInBounds k=(its.eraseIdx k).toArray
  rw [List.eraseIdxIfInBounds_toArray]
 ·have:=jJ xs k
  omega
inductive rClearI(x:V)(vs:List V)(H:Hp)(Q:VK):Prop where
 | mk:∀ l xs,x=.ref l→vs=[]→H l=some (.lst xs)→Q .non (upd H l (.lst []))→rClearI x vs H Q
def xJ:V→List V→Hp→VK→Prop:=fun x vs H Q=>rClearI x vs H Q
theorem ui:MtM X "list.clear" xJ:=by
 intro pins s σ H x vs v us Q I rx rv h
 obtain⟨l,xs,rfl,rfl,hH,q⟩:=h
 cases rx
 have hus:=rv.zero
 subst hus
 obtain⟨z,its,n,r,hl,e⟩:=I.lstM hH
 refine call_meets F.slot_list_clear ⟨_,e,rfl⟩ F.entry_list_clear (F.args_list_clear_1 _) (AutoSeq1.list_clear_list_0 l its.toArray n (by rw [List.size_toArray]; omega)) ⟨e,?_⟩
 exact⟨.non,_,I.lset (its':=[]) (ys:=[]) hH e rfl .nil (Nat.zero_le _),rfl,q⟩
inductive rCatI(x:V)(y:V)(H:Hp)(Q:VK):Prop where
 | mk:∀ l b xs zs,x=.ref l→y=.ref b→H l=some (.lst xs)→H b=some (.lst zs)→xs.length+zs.length≤sizeLine→(∀ p,H p=none→Q (.ref p) (upd H p (.lst (xs++zs))))→rCatI x y H Q
def AD:R2:=fun x y H Q=>rCatI x y H Q
theorem yh:OpR X (binaryOp .Add) AD:=by
 intro pins s σ H x y v u Q I rx ry h
 obtain⟨l,b,xs,zs,rfl,rfl,hH,hB,hz,q⟩:=h
 cases rx
 cases ry
 obtain⟨z,its,n,r,hl,e⟩:=I.lstM hH
 obtain⟨z2,its2,n2,r2,hl2,e2⟩:=I.lstM hB
 refine PySem.P.add_list e e2 ?_ (by rw [List.size_toArray,List.size_toArray]; omega)
 have ea:its.toArray++its2.toArray=(its++its2).toArray:=by simp
 rw [ea]
 exact⟨.ref _,_,I.lnew (t':=s.toks) (r.append r2) (by rw [List.length_append]; omega),rfl,q _ I.fresh⟩
inductive rRepI(x:V)(y:V)(H:Hp)(Q:VK):Prop where
 | mk:∀ l k xs,x=.ref l→y=.int k→H l=some (.lst xs)→-(2 ^ 63)≤k→k<2 ^ 63→xs.length*k.toNat≤sizeLine→(∀ p,H p=none→Q (.ref p) (upd H p (.lst (List.replicate k.toNat xs).flatten)))→rRepI x y H Q
def AB:R2:=fun x y H Q=>rRepI x y H Q
theorem wq{α:Type}(xs:List α)(k:Nat):(List.replicate k xs).flatten.length=k*xs.length:=by
 induction k with
 | zero=>simp
 | succ k ih=>rw [List.replicate_succ,List.flatten_cons,List.length_append,ih,Nat.succ_mul,Nat.add_comm]
theorem yd:OpR X (binaryOp .Mult) AB:=by
 intro pins s σ H x y v u Q I rx ry h
 obtain⟨l,k,xs,rfl,rfl,hH,h1,h2,hz,q⟩:=h
 cases rx
 obtain⟨t,rfl⟩:=ry
 obtain⟨z,its,n,r,hl,e⟩:=I.lstM hH
 have hlen:its.toArray.size*k.toNat≤sizeLine:=by rw [List.size_toArray,← hl]; exact hz
 have hcap:¬ its.toArray.size*k.toNat > (2 ^ 63-1) / 8:=by
  have : (sizeLine:Nat)≤(2 ^ 63-1) / 8:=by decide
  omega
 have hfit:¬ (!Builtin.List.listFitsIndex k)=true:=by
  rw [fitsIndex_both h1 h2]
  exact Bool.false_ne_true
 have hlong:¬ Builtin.List.listTooLong (its.toArray.size*k.toNat)=true:=by
  rw [lV hlen]
  exact Bool.false_ne_true
 have hnew:List.foldl (fun x1 x2=>x1++x2) #[] (List.replicate (if its.toArray.isEmpty=true then 0 else k.toNat) its.toArray)=(List.replicate k.toNat its).flatten.toArray:=by
  have f0:∀ m:Nat,List.foldl (fun x1 x2=>x1++x2) #[] (List.replicate m its.toArray)=(List.replicate m its).flatten.toArray:=fun m=>by
   have:=jP its m []
   rw [List.nil_append] at this
   exact this
  rw [f0]
  cases its with
  | nil=>simp
  | cons a r'=>rw [if_neg (by simp)]
 refine wpAny_binaryOp_repeat_ref (T:="list") (U:="int") (by decide) ⟨_,e,rfl⟩ (fun s'=>typeIs_int s' k t) noFill_list_mul F.fills_int_mul F.slot_int_rmul repeat_list F.slot_int_index.lookup
  (call_meets F.slot_int_rmul (typeIs_int s k t) F.entry_int_rmul (F.args_int_rmul_2 _ _) (int___rmul___int_list k t l its.toArray n)
   ⟨e,rfl,⟨_,e,rfl⟩,call_meets F.slot_list_mul ⟨_,e,rfl⟩ F.entry_list_mul (F.args_list_mul_2 _ _) (AutoListH.list___mul___list_int_3 l its.toArray n k t hfit hcap hlong) ⟨e,?_⟩⟩)
 rw [hnew]
 exact⟨.ref _,_,I.lnew (t':=s.toks) (r.rep k.toNat) (by rw [wq,Nat.mul_comm]; exact hz),rfl,q _ I.fresh⟩
end
section
variable{prog:Program}{w:World}{A:Around}{E:Value→Shared→Prop}{s:Shared}
end
section
variable{X:Cx}
end
end L2
namespace Att
open PySem PySem.W PySem.Calls PyProof.Rows
theorem h9{P:Params}{h:Heap}:∀ (ns:List Int) (vs:List Value),WellAll P h vs (ns.map WData.int)→IntsAre vs ns:=by
 intro ns
 induction ns with
 | nil=>
  intro vs w
  rw [List.map_nil] at w
  cases w
  exact .nil
 | cons n ns ih=>
  intro vs w
  rw [List.map_cons] at w
  cases w with
  | cons a b=>
   cases a
   exact .cons _ _ (ih _ b)
theorem pY{l:OpenLaw}{n:Nat}(hn:l.most=some n){P:Params}{h:Heap}{args:List WData}{vals:List Value}
  (hpre:l.row.toRowW.claim.pre args=true) (hwl:WellAll P h vals args) :
  ∃ a vs ns,vals=[Value.ref a]∧args=[WData.list (ns.map WData.int)]∧h.get? a=some {cls:=.type "list",data:=.seq vs.toArray}∧IntsAre vs ns∧ns.length≤n:=by
 have hsh:WShape.hasAll [] args [.list .int]=true:=(pre_splitW hpre).1
 have hc:l.pre.holds [] {args:=args}=true:=(pre_splitW hpre).2
 obtain⟨d,r,rfl,h1,h2⟩:=hasAllW_cons hsh
 obtain rfl:=hasAllW_nil h2
 obtain⟨xs,rfl,h3⟩:=hasW_list h1
 obtain⟨ns,rfl⟩:=items_int h3
 have hlen:ns.length≤n:=by
  unfold OpenLaw.pre at hc
  have h4:(WTm.not (.lt (.lit (.int (n:Int))) (.len (.arg 0)))).holds [] {args:=[.list (ns.map .int)]}=true:=by
   have h4:=(holds_andW hc).1
   rw [hn] at h4
   exact h4
  have h5:=condW_of h4 (w_not (w_lt w_lit (w_len_list (w_arg rfl))))
  rw [List.length_map] at h5
  refine Nat.le_of_not_lt fun q=>?_
  have q':(n:Int)<((ns.length:Nat):Int):=by omega
  first
   | (rw [decide_eq_true q'] at h5; exact absurd h5 (by decide))
   | (simp at h5; omega)
 cases hwl with
 | cons w1 w2=>
  cases w2
  cases w1 with
  | list ho hall=>exact⟨_,_,ns,rfl,rfl,ho,h9 ns _ hall,hlen⟩
theorem qa(l:OpenLaw)(args:List WData):l.row.toRowW.claim.post args (.bool true) args=true:=
 postW_of (r:=l.row.toRowW) (X:=(true==true))
  (show WShape.has [] (.bool true) .bool=true by first | rfl | decide | simp [WShape.has,WShape.arms,WShape.armsAll])
  (show (WTm.eq .res (.lit (.bool true))).value [] {args:=args,res:=some (.bool true),after:=args}=some (.bool (true==true)) from w_eq_bool (w_res rfl) w_lit) rfl
theorem attach_call{l:OpenLaw}{n:Nat}{q:Program}{loose:List Str}{XP:(Str→Option Value)→Heap→Prop}{YP:World→Heap→Prop}{d:DefRec}
  (hn:l.most=some n) (hdf:d.params.defaults=[])
  (call:∀ (w:World) (s₀ s₁:Shared) (mg mb:Str→Option Value) (fa:Addr) (o:Obj) (pm cd doc:Value) (a:Addr) (vs:List Value) (ns:List Int),
   Ground q loose [] XP w s₀ mg mb s₁.heap→YP w s₁.heap→
   s₁.heap.get? fa=some o→o.data=.func (docDef d.name d.params d.body d.scope pm cd doc)→s₁.heap.CodeRec cd d.name→mg d.name=some (.ref fa)→
   s₁.heap.get? a=some {cls:=.type "list",data:=.seq vs.toArray}→IntsAre vs ns→ns.length≤n→s₁.gens=#[]→
   codeAny (model l.prog w) callerA (.call (.ref fa) ⟨[.ref a],[]⟩) (fun r s'=>r=.ok (.ret (.bool true))∧OldK s₁.heap s'.heap∧s'.os=s₁.os∧AllBare s'.gens) s₁) :
  WalkO q loose XP YP l.row.toRowW d [] (fun f vs=>PySem.call f vs):=by
 intro w s₀ s₁ mg mb G Y fa o pm cd doc dV kV ho hd hcd hD hmg hg args vals as hpre hlay hrd hwl hlo
 obtain rfl:dV=.none:=Dflts.none hD hdf
 obtain rfl:kV=.none:=Dflts.noKw hD
 obtain⟨a,vs,ns,rfl,rfl,hobj,hints,hlen⟩:=pY hn hpre hwl
 refine enter_call (codeAny_mono (call w s₀ s₁ mg mb fa o pm cd doc a vs ns G Y ho (fd_plain hd) hcd hmg hobj hints hlen hg) fun r s' hq=>?_)
 obtain⟨rfl,h2,h3,h4⟩:=hq
 exact⟨.inl ⟨.bool true,.bool true,[],rfl,fun _=>rfl,.bool true,qa l _,fun _=>⟨List.Pairwise.nil,fun _ hm=>(nomatch hm)⟩⟩,h2,h3,h4⟩
section
variable{prog:Program}{w:World}{A:Around}{E:Value→Shared→Prop}{s:Shared}{K:Frag}
end
end Att
namespace L2
open PySem PySem.Spec PyProof.Rows
theorem jn:∀ {vs:List Value} {ns:List Int},IntsAre vs ns→aw (ns.map V.int) vs
 | _,_,.nil=>.nil
 | _,_,.cons n t h=>.cons ⟨t,rfl⟩ (jn h)
def yW(H:Hp):Prop:=∀ b,H b=none∨∃ o xs,H b=some (.frz o (.lst xs))
theorem ut{P:Program}{w:World}{K:PySem.W.Frag}{mg mb:Str→Option Value}{CX:CXT}{k:Nat}{fa a:Addr}{fd:FuncData}{x:Str}{sp:Sp}{s₁:Shared}{vs:List Value}{ns:List Int}
  (KX:K.In s₁.heap) (hns:s₁.heap.Ns mainGlobals mg) (hb:s₁.heap.Ns builtinsNs mb) (hbb:∀ x:Str,x≠"__name__"→mb x=bootBuiltins x) (hlim:s₁.heap.NoLimit) (hsys:∃ mm,s₁.heap.Ns sysModules mm) (hg:s₁.gens=#[])
  (ha:s₁.heap.get? a=some {cls:=.type "list",data:=.seq vs.toArray}) (hi:IntsAre vs ns) (hl:ns.length≤sizeLine) (hr:aW k callerA)
  (F:∀ base:Heap,K.In base→base.Ns mainGlobals mg→aZ P w K mg base CX k fa fd [x] sp) (hbind:∀ (s:Shared) (u:Value),BindsTo s fd ⟨[u],[]⟩ [(x,u)])
  (hsp:∀ H:Hp,yW H→SqL K H a (ns.map V.int)→sp [.ref a] H (fun v _=>v=.bl true) fun _ _ _=>False)
  (hCX:∀ H e s',CX [] H s₁ (fun _ _ _=>False) e s'→False) :
  codeAny (model P w) callerA (.call (.ref fa) ⟨[.ref a],[]⟩) (fun r s'=>r=.ok (.ret (.bool true))∧OldK s₁.heap s'.heap∧s'.os=s₁.os∧AllBare s'.gens) s₁:=by
 have rv:=jn hi
 have lenV:=hi.length
 have core:∀ H:Hp,yW H→SqL K H a (ns.map V.int)→HOk P w H s₁.heap→(∀ b,H b≠none→b=a)→(H a≠none→K.lookup a=none)→
   codeAny (model P w) callerA (.call (.ref fa) ⟨[.ref a],[]⟩) (fun r s'=>r=.ok (.ret (.bool true))∧OldK s₁.heap s'.heap∧s'.os=s₁.os∧AllBare s'.gens) s₁:=by
  intro H hO hS hok hA hK
  have base_of:∀ {b:Addr} {o:Obj},s₁.heap.get? b=some o→H b=none→(kL s₁.heap H).get? b=some o:=fun e n=>uz e n
  have noA:∀ {b:Addr} {o:Obj} {es:Array DictEntry} {ep:Nat},s₁.heap.get? b=some o→o.data=.dict es ep→H b=none:=fun {b o es ep} e d=>by
   cases q:H b with
   | none=>rfl
   | some u=>
    have e':b=a:=hA b (by rw [q]; simp)
    subst e'
    rw [ha] at e; cases e
    have d':Data.seq vs.toArray _=Data.dict es ep:=d
    cases d'
  have nsK:∀ {b:Addr} {m:Str→Option Value},s₁.heap.Ns b m→(kL s₁.heap H).Ns b m:=fun {b m} ⟨o,es,ep,e,d,r⟩=>⟨o,es,ep,base_of e (noA e d),d,r⟩
  have hKb:K.In (kL s₁.heap H):=fun b o e=>base_of (KX b o e) (by
   cases q:H b with
   | none=>rfl
   | some u=>
    have e':b=a:=hA b (by rw [q]; simp)
    subst e'
    rw [hK (by rw [q]; simp)] at e; cases e)
  have hM:Mod K mg (kL s₁.heap H):=⟨hKb,nsK hns,⟨mb,nsK hb,hbb⟩,let ⟨mc,h1,h2⟩:=hlim; ⟨mc,nsK h1,h2⟩,let ⟨mm,h1⟩:=hsys; ⟨mm,nsK h1⟩⟩
  have e0:oB P w K mg (kL s₁.heap H) callerA [] s₁ H:=⟨rfl,hM,fun b o e=>wf e,Nat.le_of_eq (qH _ _),trivial,fun b hb=>absurd (show b∈([]:List Addr) from hb) (by simp),hok,.of_eq hg⟩
  refine codeAny_mono ((F _ hKb (nsK hns)).run callerA [] s₁ H ⟨[.ref a],[]⟩ [.ref a] [.ref a] _ _ hr e0 (hbind s₁ (.ref a)) (.cons rfl .nil) (hsp H hO hS)) fun r s' h=>?_
  cases r with
  | error e=>exact(hCX H e s' h).elim
  | ok fl=>
   cases fl with
   | next=>exact False.elim h
   | brk=>exact False.elim h
   | cont=>exact False.elim h
   | ret u=>
    obtain⟨v,H',os,bare,un,hok',r',q⟩:=h
    have q':v=.bl true:=q
    subst q'
    obtain rfl:u=Value.bool true:=r'
    refine⟨rfl,OldK.of_keep fun b o e=>?_,os,bare⟩
    cases q:H b with
    | none=>exact un.keep b o e q (by intro z; exact absurd (show b∈([]:List Addr) from z) (by simp)) (by simp)
    | some u=>
     rcases hO b with z | ⟨ob,xs,z⟩
     ·rw [q] at z; cases z
     ·have z2:=un.frzs b ob _ z
      obtain⟨e1,_⟩:=hok b _ z
      obtain⟨e2,_⟩:=hok' b _ z2
      rw [e] at e1; cases e1
      exact e2
 cases hk:K.lookup a with
 | some o=>
  have e:=KX a o hk
  rw [ha] at e
  cases e
  refine core (fun _=>none) (fun _=>.inl rfl) (.inr ⟨_,vs.toArray,_,hk,rfl,rfl,rfl,by rw [List.size_toArray,lenV]; exact hl,by simpa using rv⟩) (fun b u z=>by have z':(none:Option HO)=some u:=z; cases z') (fun b z=>absurd rfl z) fun z=>absurd rfl z
 | none=>
  refine core (fun b=>if b=a then some (.frz {cls:=.type "list",data:=.seq vs.toArray} (.lst (ns.map V.int))) else none) (fun b=>?_) (.inl (.inr ⟨{cls:=.type "list",data:=.seq vs.toArray},if_pos rfl⟩)) (fun b u z=>?_) (fun b z=>?_) fun _=>hk
  ·by_cases hb:b=a
   ·exact .inr ⟨_,_,if_pos hb⟩
   ·exact .inl (if_neg hb)
  ·by_cases hb:b=a
   ·have z':=(if_pos hb).symm.trans z
    cases z'
    subst hb
    exact⟨ha,by rw [List.length_map]; exact hl,vs,_,rv,ha⟩
   ·have z':=(if_neg hb).symm.trans z
    cases z'
  ·by_cases hb:b=a
   ·exact hb
   ·exact absurd (if_neg hb) z
theorem walk_of{l:PySem.W.OpenLaw}{n k:Nat}{q:Program}{loose:List Str}{XP:(Str→Option Value)→Heap→Prop}{YP:World→Heap→Prop}{d:DefRec}{K:Params→PySem.W.Frag}{CX:World→CXT}{sp:World→Sp}{x:Str}
  (hn:l.most=some n) (hn2:n≤sizeLine) (hdf:d.params.defaults=[]) (hr:aW k callerA) (hq:importsNone q=true)
  (hY:∀ (w:World) (h:Heap),YP w h→(K w.params).In h)
  (F:∀ (w:World) (mg:Str→Option Value) (fa:Addr) (h:Heap),(K w.params).In h→h.Ns mainGlobals mg→mg d.name=some (.ref fa)→
   ∃ fd:FuncData,(∀ (s:Shared) (u:Value),BindsTo s fd ⟨[u],[]⟩ [(x,u)])∧
    ∀ base:Heap,(K w.params).In base→base.Ns mainGlobals mg→aZ l.prog w (K w.params) mg base (CX w) k fa fd [x] (sp w))
  (hsp:∀ (w:World) (H:Hp) (a:Addr) (ns:List Int),ns.length≤n→yW H→SqL (K w.params) H a (ns.map V.int)→sp w [.ref a] H (fun v _=>v=.bl true) fun _ _ _=>False)
  (hCX:∀ (w:World) (H:Hp) (s:Shared) (e:Value) (s':Shared),CX w [] H s (fun _ _ _=>False) e s'→False) :
  PySem.W.WalkO q loose XP YP l.row.toRowW d [] (fun f vs=>PySem.call f vs):=by
 refine Att.attach_call hn hdf fun w s₀ s₁ mg mb fa o pm cd doc a vs ns G Y ho hd hcd hmg hobj hints hlen hg=>?_
 have KX:=hY w _ Y
 obtain⟨fd,hb,hF⟩:=F w mg fa _ KX G.T.g hmg
 exact ut KX G.T.g G.T.b G.T.builtins G.T.nolimit (let ⟨mm,x,_⟩:=(G.T.seer hq).mods; ⟨mm,x⟩) hg hobj hints (Nat.le_trans hlen hn2) hr hF hb (fun H hO hS=>hsp w H a ns hlen hO hS) fun H e s'=>hCX w H s₁ e s'
def cF(s:Stmt)(j:Nat):Stmt:=match s with
 | .ClassDef _ _ _ body _ _ _ _ _ _ _=>body.getD j (.Pass ⟨0,0,0,0⟩)
 | _=>.Pass ⟨0,0,0,0⟩
def cg(s:Stmt):Arguments:=match s with
 | .FunctionDef _ a _ _ _ _ _ _ _ _=>a
 | _=>{posonlyargs:=[],args:=[],vararg:=none,kwonlyargs:=[],kw_defaults:=[],kwarg:=none,defaults:=[]}
def bK(s:Stmt):List Stmt:=match s with
 | .FunctionDef _ _ b _ _ _ _ _ _ _=>b
 | _=>[]
def af(s:Stmt):Scope:=match s with
 | .FunctionDef _ _ _ _ _ _ sc _ _ _=>sc
 | _=>{kind:=.function,names:=[],isGenerator:=false,isCoroutine:=false}
abbrev CX0:CXT:=fun _ _ _ _ _ _=>False
abbrev E0:XK:=fun _ _ _=>False
theorem pd{X:Cx}:fP CX0 X E0:=fun _ _ _ _ _ _ _ h=>h.elim
structure Fun(K:PySem.W.Frag)(x qual:Str)(st:Stmt)(f:Addr)(fd:FuncData):Prop where
 ex:∃ (oc:Value) (od:Option Addr) (kV doc pm:Value) (an:Option Addr) (cdv ct:Value) (osl:Array (Option Value)),
  fd=PySem.W.fnOf x qual (cg st) (bK st) (af st) .none kV doc pm an cdv ct∧K.lookup f=some ⟨oc,od,.func fd,osl⟩∧PySem.W.codeIn K cdv qual=true
 kp:PySem.W.keepIn K (.ref f)=true
section
variable{P:Program}{w:World}{K:PySem.W.Frag}{mg:Str→Option Value}{base:Heap}
theorem Fun.ok{x qual:Str}{st:Stmt}{f:Addr}{fd:FuncData}{N ps:List Str}{k:Nat}{sp:Sp}(F:Fun K x qual st f fd)(S:ak N ps (af st))(len:∀ vs H Q E,sp vs H Q E→vs.length=ps.length)
  (hbody:∀ (cdv:Value) (A:Around) (outer:List Env) (s:Shared) (H:Hp) (vs:List V) (Q:VK) (E:XK),aW k (A.deeper (envOfC qual (af st) s.heap.objs.size f cdv))→sp vs H Q E→
   ∃ t,PSs (mJ CX0 P w K mg base N qual (af st) f cdv A outer s H E).nox (bK st) t∧t {nx:=fun _ H'=>Q .non H',rt:=Q} (f7 N vs) H):aZ P w K mg base CX0 (k+1) f fd ps sp:=by
 obtain⟨oc,od,kV,doc,pm,an,cdv,ct,osl,rfl,lk,hcd⟩:=F.ex
 refine zR lk hcd S len fun A outer s H vs Q E hr hsp=>?_
 obtain⟨t,h,q⟩:=hbody cdv A outer s H vs Q E hr hsp
 exact⟨t,h.nox,q⟩
theorem Fun.binds{x qual:Str}{st:Stmt}{f:Addr}{fd:FuncData}{ps:List Str}(F:Fun K x qual st f fd)
  (h:∀ (kV doc pm:Value) (an:Option Addr) (cdv ct:Value) (us:List Value),us.length=ps.length→bindArgs (PySem.W.fnOf x qual (cg st) (bK st) (af st) .none kV doc pm an cdv ct) ⟨us,[]⟩=pure (ps.zip us)):aU K fd ps []:=by
 obtain⟨oc,od,kV,doc,pm,an,cdv,ct,osl,rfl,lk,hcd⟩:=F.ex
 exact .all (h kV doc pm an cdv ct)
theorem iZ{x qual:Str}{st:Stmt}{f:Addr}{oc:Value}{od an:Option Addr}{osl:Array (Option Value)}{kV doc pm cdv ct:Value}(l:K.lookup f=some ⟨oc,od,.func (PySem.W.fnOf x qual (cg st) (bK st) (af st) .none kV doc pm an cdv ct),osl⟩)
  (c:PySem.W.codeIn K cdv qual=true) (k:PySem.W.keepIn K (.ref f)=true):Fun K x qual st f (PySem.W.fnOf x qual (cg st) (bK st) (af st) .none kV doc pm an cdv ct):=⟨⟨oc,od,kV,doc,pm,an,cdv,ct,osl,rfl,l,c⟩,k⟩
end
theorem mE{A:Around}{k:Nat}(hr:aW k A):A.units+1<cLine:=Nat.lt_of_le_of_lt (Nat.add_le_add_left (by decide:1≤64) _) hr.units
section
variable{X:Cx}
end
theorem bI{A B:Prop}(h:B):if false=true then A else B:=by
 rw [if_neg Bool.false_ne_true]
 exact h
theorem zL{A B:Prop}(h:A):if true=true then A else B:=by
 rw [if_pos rfl]
 exact h
theorem yD{c A B:Prop}[Decidable c](h1:c→A)(h2:¬ c→B):if c then A else B:=by
 by_cases h:c
 ·rw [if_pos h]
  exact h1 h
 ·rw [if_neg h]
  exact h2 h
theorem mD{c A B:Prop}[Decidable c](hc:c)(h:B):if (!decide c)=true then A else B:=by
 rw [decide_eq_true hc]
 exact bI h
def Same(H H':Hp):Prop:=∀ b o,H b=some o→H' b=some o
theorem Same.refl(H:Hp):Same H H:=fun _ _ h=>h
theorem Same.trans{H H1 H2:Hp}(a:Same H H1)(b:Same H1 H2):Same H H2:=fun c o h=>b c o (a c o h)
theorem Same.free{H H':Hp}(e:Same H H'){l:Addr}(h:H' l=Option.none):H l=Option.none:=by
 cases q:H l with
 | none=>rfl
 | some o=>
  rw [e l o q] at h
  cases h
theorem Same.seq{K:PySem.W.Frag}{H H':Hp}{a:Addr}{xs:List V}(e:Same H H')(h:SqL K H a xs):SqL K H' a xs:=by
 rcases h with (h | ⟨o,h⟩) | h
 ·exact .inl (.inl (e _ _ h))
 ·exact .inl (.inr ⟨o,e _ _ h⟩)
 ·exact .inr h
end L2
set_option maxHeartbeats 4000000
namespace L2
open PySem PySem.Spec PyProof.Rows
theorem eJ{prog:Program}{w:World}{A:Around}{R:Result→Shared→Prop}{s:Shared}{elt target iter:Expr}{scope:Scope}{pos:Pos}{it acc:Value}{env:Env}(I:Nat→Shared→Prop)
  (turn:∀ n s,I n s→wpAny (model prog w) A (pyNext it) (fun r s1=>match r with
   | none=>R (.ok .next) s1
   | some v=>wpAny (model prog w) A (letOwnedTupleGo target it v) (fun _ s1'=>wpAny (model prog w) A (assign target env v) (fun _ s2=>
     wpAny (model prog w) A (eval elt env) (fun x s4=>
       wpAny (model prog w) A (call (.builtin "list.append") [acc,x]) (fun _ s5=>∃ m,m<n∧I m s5) (notedBy (model prog w) A env fun e s'=>R (.error e) s') s4) (notedBy (model prog w) A env fun e s'=>R (.error e) s') s2)
     (notedBy (model prog w) A env fun e s'=>R (.error e) s') s1') (notedBy (model prog w) A env fun e s'=>R (.error e) s') s1) (notedBy (model prog w) A env fun e s'=>R (.error e) s') s)
  (n:Nat) (h:I n s):codeAny (model prog w) A (.compLoop (.ListComp elt [⟨target,iter,[],0⟩] scope pos) 0 it acc env) R s:=by
 refine codeAny_loop rfl I (fun n s hI=>?_) n h
 show wpAny _ A ((compTurn (.ListComp elt [⟨target,iter,[],0⟩] scope pos) 0 it acc env).onRaise (fun x=>do noteFrame x env; theTreesLotGoes x)) _ _ s
 refine wpAny_noted ?_
 rw [compTurn_list]
 refine wpAny_bind (wpAny_standAt (wpAny_bind (wpAny_mono (turn n s hI) (fun r s1 h1=>?_) fun _ _ h'=>h')))
 cases r with
 | none=>exact wpAny_pure h1
 | some v=>
  refine wpAny_bind (wpAny_mono h1 (fun _ s1' h1'=>?_) fun _ _ h'=>h')
  refine wpAny_bind (wpAny_mono h1' (fun _ s2 h2=>wpAny_bind (wpAny_mono (wpAny_tests_nil (Q:=fun ok s3=>ok=true∧s3=s2) ⟨rfl,rfl⟩) (fun ok s3 h3=>?_) fun _ _ h'=>h')) fun _ _ h'=>h')
  obtain⟨rfl,rfl⟩:=h3
  exact wpAny_bind (wpAny_bind (wpAny_mono h2 (fun x s4 h4=>wpAny_bind (wpAny_mono h4 (fun _ s5 h5=>wpAny_pure (wpAny_pure ⟨rfl,h5⟩)) fun _ _ h'=>h')) fun _ _ h'=>h'))
theorem bx{env:Env}:∀ {names:List (Str×NameKind)} {x:Str},
  (names.map fun (n,k)=>if (k==NameKind.free&&env.scope.kind==.function&&env.kindOf n==some .cell) then (n,NameKind.cell) else (n,k)).lookup x =
   (names.lookup x).map fun k=>if (k==NameKind.free&&env.scope.kind==.function&&env.kindOf x==some .cell) then NameKind.cell else k
 | [],_=>rfl
 | (n,k)::r,x=>by
  have ih:=@bx env r x
  show List.lookup x ((if (k==NameKind.free&&env.scope.kind==.function&&env.kindOf n==some .cell)=true then (n,NameKind.cell) else (n,k))::_)=_
  cases hx:x==n with
  | true=>
   have e:x=n:=eq_of_beq hx
   subst e
   by_cases hc:(k==NameKind.free&&env.scope.kind==.function&&env.kindOf x==some .cell)=true
   ·rw [if_pos hc]; simp only [List.lookup_cons,hx,Option.map_some,hc,if_true]
   ·rw [if_neg hc]; simp only [List.lookup_cons,hx,Option.map_some,hc]; rfl
  | false=>
   by_cases hc:(k==NameKind.free&&env.scope.kind==.function&&env.kindOf n==some .cell)=true
   ·rw [if_pos hc]; simp only [List.lookup_cons,hx]; exact ih
   ·rw [if_neg hc]; simp only [List.lookup_cons,hx]; exact ih
def ur(n:Nat)(N' N:List Str)(names:List (Str×NameKind)):Bool:=
 (List.range N.length).all fun i=>match N'[n+i]? with
  | none=>true
  | some x=>(names.lookup x==some .free&&N[i]? == some x) || !(names.lookup x==some .local||names.lookup x==some .cell||names.lookup x==some .free)
structure aM(n:Nat)(N':List Str)(X:Cx)(scope:Scope):Prop where
 kind:scope.kind=.function
 names:∀ x∈scope.names,x.2=.local→scope.names.lookup x.1=some .local
 cell:∀ x∈scope.names,x.2≠.cell
 free:∀ x∈scope.names,x.2=.free→X.env.kindOf x.1=some .cell∨X.env.kindOf x.1=some .free
 nd:N'.Nodup
 len:N'.length=n+X.N.length
 look:ur n N' X.N scope.names=true
theorem dQ{scope:Scope}{env:Env}(hh:∀ x∈scope.names,x.2=.free→∃ c,env.cells.lookup x.1=some c):
  ∃ cl,closureFor scope env=pure cl∧(∀ x c,cl.lookup x=some c→env.cells.lookup x=some c)∧∀ x∈scope.names,x.2=.free→∃ c,cl.lookup x.1=some c:=by
 have all:∀ (l:List (Str×NameKind)) (cs:List (Str×Addr)),(∀ x∈l,x.2=.free→∃ c,env.cells.lookup x.1=some c)→(∀ x c,cs.lookup x=some c→env.cells.lookup x=some c)→
   ∃ cl,(forIn l cs fun (x:Str×NameKind) r=>if x.2==NameKind.free then (do let a ← cellOf env x.1; pure (ForInStep.yield ((x.1,a)::r))) else pure (ForInStep.yield r):Sem (List (Str×Addr)))=pure cl∧
    (∀ x c,cl.lookup x=some c→env.cells.lookup x=some c)∧(∀ x∈l,x.2=.free→∃ c,cl.lookup x.1=some c)∧∀ x,(∃ c,cs.lookup x=some c)→∃ c,cl.lookup x=some c:=by
  intro l
  induction l with
  | nil=>intro cs _ h; exact⟨cs,rfl,h,(fun _ h=>nomatch h),fun _ h=>h⟩
  | cons y r ih=>
   intro cs hf h
   obtain⟨n,k⟩:=y
   by_cases hk:k=.free
   ·subst hk
    obtain⟨a,ha⟩:=hf (n,.free) List.mem_cons_self rfl
    have h':∀ x c,List.lookup x ((n,a)::cs)=some c→env.cells.lookup x=some c:=fun x c e=>by
     cases hx:x==n with
     | true=>
      simp only [List.lookup_cons,hx] at e
      have q:x=n:=eq_of_beq hx
      subst q
      rw [ha]; exact e
     | false=>
      simp only [List.lookup_cons,hx] at e
      exact h x c e
    obtain⟨cl,e1,e2,e3,e4⟩:=ih ((n,a)::cs) (fun x hx=>hf x (List.mem_cons_of_mem _ hx)) h'
    refine⟨cl,?_,e2,fun x hx hxf=>?_,fun x hx=>?_⟩
    ·rw [List.forIn_cons]
     have e5:cellOf env n=pure a:=by unfold cellOf; rw [ha]
     simp only [beq_self_eq_true,if_true,e5,pure_bind]
     exact e1
    ·rcases List.mem_cons.mp hx with rfl | hx
     ·exact e4 _ ⟨a,by simp [List.lookup_cons]⟩
     ·exact e3 x hx hxf
    ·obtain⟨c,hc⟩:=hx
     refine e4 x ?_
     cases hx:x==n with
     | true=>exact⟨a,by simp only [List.lookup_cons,hx]⟩
     | false=>exact⟨c,by simp only [List.lookup_cons,hx]; exact hc⟩
   ·obtain⟨cl,e1,e2,e3,e4⟩:=ih cs (fun x hx=>hf x (List.mem_cons_of_mem _ hx)) h
    refine⟨cl,?_,e2,fun x hx hxf=>?_,e4⟩
    ·rw [List.forIn_cons]
     have : (k==NameKind.free)=false:=by simpa using hk
     simp only [this,Bool.false_eq_true,if_false,pure_bind]
     exact e1
    ·rcases List.mem_cons.mp hx with rfl | hx
     ·exact absurd hxf hk
     ·exact e3 x hx hxf
 obtain⟨cl,e1,e2,e3,_⟩:=all scope.names [] hh (fun _ _ h=>nomatch h)
 refine⟨cl,?_,e2,e3⟩
 unfold closureFor
 refine Eq.trans (b:=(pure cl>>=fun cs=>pure cs)) ?_ rfl
 refine Eq.trans ?_ (congrArg (fun (m:Sem (List (Str×Addr)))=>m>>=fun cs=>pure cs) e1)
 rfl
def ao(X:Cx)(N':List Str)(scope:Scope)(cl:List (Str×Addr))(C:Addr)(ex:List Addr)(s:Shared)(H:Hp):Cx:=
 {X with N:=N',s₀:=s,H₀:=H,env:=compEnvC scope cl C X.env,outer:=X.stack,ex:=ex,fn:=fun _=>false,pn:=[]}
section
variable{X:Cx}{n:Nat}{N':List Str}{scope:Scope}{elt tg iter:Expr}{pos:Pos}{pins:List (Addr×Obj)}{σ:St}{H2:Hp}{s2:Shared}{cl:List (Str×Addr)}
def b7(X:Cx)(pins:List (Addr×Obj))(σ:St)(Q:VK)(acc:Value)(C:Addr)(s':Shared):Prop:=
 ∃ (D:Addr) (H':Hp) (m:Str→Option Value),acc=.ref D∧Inv X pins σ H' s'∧s'.heap.Ns C m∧dS X pins H' C∧Q (.ref D) H'
theorem mM{C D:Addr}{fp:List Addr}{s':Shared}{us:List Value}{k:Nat}(S:aM n N' X scope)(c1:∀ x c,cl.lookup x=some c→X.env.cells.lookup x=some c)(c2:∀ x∈scope.names,x.2=.free→∃ c,cl.lookup x.1=some c)
  (I2:Inv X pins σ H2 s2) (f2:∀ b∈fp,dS X pins H2 b) (fl:∀ b∈fp,@LT.lt Nat _ b s2.heap.objs.size) (hD:@Eq Nat D s2.heap.objs.size) (hC:@Eq Nat C (s2.heap.objs.size+1))
  (ho:s'.os=s2.os) (hg:s'.gens=s2.gens) (old:∀ b o,s2.heap.get? b=some o→s'.heap.get? b=some o) (hns:∃ m,s'.heap.Ns C m) (hd:s'.heap.get? D=some {cls:=.type "list",data:=.seq us.toArray k}) :
  Inv (ao X N' scope cl C fp s2 H2) [(D,{cls:=.type "list",data:=.seq us.toArray k})] (List.replicate n none++σ) H2 s':=by
 have frl:∀ b∈frs X.stack,@LT.lt Nat _ b s2.heap.objs.size:=fun b hb=>by
  obtain⟨_,o,ho,_⟩:=I2.stack.mem hb
  exact Heap.lt_size ho
 have celll:∀ x c,cl.lookup x=some c→c<s2.heap.objs.size:=fun x c e=>by
  obtain⟨v,q⟩:=I2.cell x c (c1 x c e)
  exact q.lt
 have kOf:∀ x,(ao X N' scope cl C fp s2 H2).env.kindOf x=(scope.names.lookup x).map fun k=>if (k==NameKind.free&&X.env.scope.kind==.function&&X.env.kindOf x==some .cell) then NameKind.cell else k:=fun x=>bx
 have kfree:∀ x,((ao X N' scope cl C fp s2 H2).env.kindOf x=some .cell∨(ao X N' scope cl C fp s2 H2).env.kindOf x=some .free)→scope.names.lookup x=some .free:=fun x hx=>by
  rw [kOf x] at hx
  cases e:scope.names.lookup x with
  | none=>rw [e] at hx; rcases hx with hx | hx <;> cases hx
  | some kd=>
   rw [e] at hx
   cases kd with
   | free=>rfl
   | «local»=>rcases hx with hx | hx <;> (simp at hx)
   | cell=>exact absurd rfl (S.cell _ (PySem.mem_of_lookup e))
   | globalExplicit=>rcases hx with hx | hx <;> (simp at hx)
   | globalImplicit=>rcases hx with hx | hx <;> (simp at hx)
 have hasC:∀ x,scope.names.lookup x=some .free→∃ c,cl.lookup x=some c:=fun x hx=>c2 _ (PySem.mem_of_lookup hx) rfl
 have hH:∀ a,s2.heap.objs.size≤a→H2 a=none:=fun a ha=>I2.hok.fresh ha
 have ok:(ao X N' scope cl C fp s2 H2).Ok:=by
  refine⟨I2.ok.mod,S.kind,I2.ok.glob,I2.ok.blt,?_,fun x y c h1 h2=>?_,fun x hx=>hasC x (kfree x hx),fun x c h=>absurd h (by show ¬ (false=true); decide),I2.ok.hd,I2.ok.frames,.inl rfl,fun b hb=>?_,I2.bs,Nat.le_trans I2.ok.bsz I2.sz,fun b o e hb=>?_,fun b hb z=>?_,I2.stack,I2.stkFree⟩
  ·show s2.heap.objs.size≤C
   omega
  ·exact I2.ok.inj x y c (c1 x c h1) (c1 y c h2)
  ·have:=fl b hb
   refine⟨by show @Ne Nat b C; omega,fun x c e z=>?_⟩
   exact(f2 b hb).2.2.2.2.1 x c (c1 x c e) z
  ·obtain⟨f0,f1,ff,f3,_⟩:=f2 b hb
   rcases f3 with z | z
   ·exact I2.ok.noex b o e z
   ·have q1:@LT.lt Nat _ b X.base.objs.size:=Heap.lt_size e
    have q2:=I2.ok.bsz
    have q3:@LE.le Nat _ X.s₀.heap.objs.size b:=z
    omega
  ·obtain⟨f0,f1,ff,_⟩:=f2 b hb
   exact(List.mem_cons.mp (I2.stkSub b z)).elim f1 ff
 refine⟨ok,ho,by rw [hg]; exact I2.bare,Un.kept old,?_,fun x c e=>?_,?_,fun x c e=>?_,fun p hp=>?_,I2.hok.kept old,?_⟩
 ·obtain⟨m,hn⟩:=hns
  refine⟨m,hn,fun i x v e1 e2 e3=>?_⟩
  have e2':(List.replicate n (none:Option V)++σ)[i]? = some (some v):=e2
  have e1':N'[i]? = some x:=e1
  by_cases hi:i<n
  ·rw [List.getElem?_append_left (by simpa using hi),List.getElem?_replicate] at e2'
   split at e2' <;> cases e2'
  ·obtain⟨j,rfl⟩:∃ j,i=n+j:=⟨i-n,by omega⟩
   rw [List.getElem?_append_right (by simp)] at e2'
   simp only [List.length_replicate,Nat.add_sub_cancel_left] at e2'
   have hj:j<X.N.length:=by rw [← I2.len]; exact(List.getElem?_eq_some_iff.mp e2').1
   have lk:=List.all_eq_true.mp S.look j (List.mem_range.mpr hj)
   rw [e1'] at lk
   have vis:scope.names.lookup x=some .local∨scope.names.lookup x=some .cell∨scope.names.lookup x=some .free:=by
    have e3':(ao X N' scope cl C fp s2 H2).env.kindOf x=some .local∨(ao X N' scope cl C fp s2 H2).env.kindOf x=some .cell∨(ao X N' scope cl C fp s2 H2).env.kindOf x=some .free:=e3
    rcases e3' with z | z | z
    ·rw [kOf x] at z
     cases e:scope.names.lookup x with
     | none=>rw [e] at z; cases z
     | some kd=>
      rw [e] at z
      simp only [Option.map_some] at z
      split at z
      ·cases z
      ·cases z; exact .inl rfl
    ·exact .inr (.inr (kfree x (.inl z)))
    ·exact .inr (.inr (kfree x (.inr z)))
   have lk2:scope.names.lookup x=some .free∧X.N[j]? = some x:=by
    simp only [Bool.or_eq_true,Bool.and_eq_true,Bool.not_eq_true',Bool.or_eq_false_iff,beq_iff_eq,beq_eq_false_iff_ne] at lk
    rcases lk with z | z
    ·exact z
    ·rcases vis with q | q | q
     ·exact absurd q z.1.1
     ·exact absurd q z.1.2
     ·exact absurd q z.2
   obtain⟨m0,hn0,hl0⟩:=I2.loc
   have vX:Vis X.env.scope x:=by
    rcases S.free _ (PySem.mem_of_lookup lk2.1) rfl with z | z
    ·exact .inr (.inl z)
    ·exact .inr (.inr z)
   obtain⟨u,r,l⟩:=hl0 j x v lk2.2 e2' vX
   refine⟨u,r,.inr ⟨?_,?_⟩⟩
   ·rw [kOf x,lk2.1]
    simp only [Option.map_some]
    split
    ·exact .inl rfl
    ·exact .inr rfl
   ·obtain⟨c,hc⟩:=hasC x lk2.1
    refine⟨c,hc,?_⟩
    rcases l with ⟨kl,_⟩ | ⟨_,c',hc',z⟩
    ·rcases S.free _ (PySem.mem_of_lookup lk2.1) rfl with q | q <;> (rw [kl] at q; cases q)
    ·have:=c1 x c hc
     rw [hc'] at this; cases this
     obtain⟨oc,hoc,hdc⟩:=z
     exact⟨oc,old _ _ hoc,hdc⟩
 ·obtain⟨v,oc,hoc,hdc⟩:=I2.cell x c (c1 x c e)
  exact⟨v,oc,old _ _ hoc,hdc⟩
 ·exact hH C (by omega)
 ·exact I2.freeC x c (c1 x c e)
 ·have e:p=(D,{cls:=.type "list",data:=.seq us.toArray k}):=by simpa [ao] using hp
  subst e
  refine⟨hd,hH D (by omega),by show @Ne Nat D C; omega,fun z=>?_,fun v z=>by cases z⟩
  have:=frl D z
  omega
 ·show (List.replicate n none++σ).length=N'.length
  rw [List.length_append,List.length_replicate,S.len,I2.len]
def fS(n:Nat)(J:It)(g:TG)(te:TE)(σ:St)(H:Hp)(Q:VK):Prop:=
 ∃ W:Nat→Nat→List V→St→Hp→Prop,(∃ m,W 0 m [] (List.replicate n none++σ) H)∧∀ i m ys σ' H,W i m ys σ' H→
  (J.stop i H∧∀ D,H D=none→Q (.ref D) (upd H D (.lst ys)))∨
  (J.go i H∧ys.length<sizeLine∧∀ x H',J.yld i H x H'→g x σ' H' fun σ2 H2=>∃ N:VK,te σ2 H2 N∧∀ v H3,N v H3→∃ m',m'<m∧W (i+1) m' (ys++[v]) σ2 H3)
abbrev aA(α:Type):=List (Str×Addr)→Addr→List Addr→Shared→Hp→α
def xc(n:Nat)(wi:TI)(g:aA TG)(te:aA TE):TE:=fun σ H Q=>wi σ H fun J H1=>∀ cl C ex s Hc,fS n J (g cl C ex s Hc) (te cl C ex s Hc) σ H1 Q
theorem i5{it:Addr}{fp:List Addr}{tn:Nat→Heap→Prop}{J:It}{g:aA TG}{te:aA TE}{Q:VK}{E:Value→Shared→Prop}
  (hE:∀ v s,¬ X.xe v s) (hc:X.calm=true) (S:aM n N' X scope) (c1:∀ x c,cl.lookup x=some c→X.env.cells.lookup x=some c) (c2:∀ x∈scope.names,x.2=.free→∃ c,cl.lookup x.1=some c)
  (I2:Inv X pins σ H2 s2) (T:ic X.prog X.w X.K tg J fp it tn) (st2:tn 0 s2.heap) (f2:∀ b∈fp,dS X pins H2 b)
  (hg:∀ cl C ex s H,PG (ao X N' scope cl C ex s H) tg (g cl C ex s H)) (he:∀ cl C ex s H,PE (ao X N' scope cl C ex s H) elt (te cl C ex s H))
  (cok:∀ cl C ex s Hc,fS n J (g cl C ex s Hc) (te cl C ex s Hc) σ H2 Q) :
  wpAny (model X.prog X.w) X.A (newList []) (fun acc s3=>wpAny (model X.prog X.w) X.A (newFunctionEnv scope X.env.globals cl [] X.env.qual none .none (some X.env)) (fun cenv s4=>
   codeAny (model X.prog X.w) X.A (.compStart (.ListComp elt [⟨tg,iter,[],0⟩] scope pos) 0 (.ref it) acc {cenv with scope:=relabel scope X.env})
    (fun r s'=>match r with | .ok _=>b7 X pins σ Q acc cenv.locals s' | .error _=>False) s4) E s3) E s2:=by
 have fl:∀ b∈fp,@LT.lt Nat _ b s2.heap.objs.size:=fun b hb=>by
  obtain⟨o,e,_⟩:=T.obj _ _ st2 b hb
  exact Heap.lt_size e
 have frl:∀ b∈frs X.stack,@LT.lt Nat _ b s2.heap.objs.size:=fun b hb=>by
  obtain⟨_,o,ho,_⟩:=I2.stack.mem hb
  exact Heap.lt_size ho
 have celll:∀ x c,X.env.cells.lookup x=some c→@LT.lt Nat _ c s2.heap.objs.size:=fun x c e=>by
  obtain⟨v,q⟩:=I2.cell x c e
  exact q.lt
 refine wpAny_newObj_type (wpAny_newFunctionEnv S.cell (by intro y hy; simp at hy) (fun h1 hns1 hsb1=>?_) S.kind)
 dsimp only at hns1 hsb1 ⊢
 generalize hH2:s2.heap.push {cls:=.type "list",dict:=none,data:=.seq ([]:List Value).toArray}=G at hns1 hsb1 ⊢
 have hC:@Eq Nat G.objs.size (s2.heap.objs.size+1):=by rw [← hH2,Heap.size_push]
 have hDC:s2.heap.objs.size≠G.objs.size:=by show @Ne Nat _ _; omega
 have below:∀ b,@LT.lt Nat _ b s2.heap.objs.size→b≠G.objs.size∧b≠s2.heap.objs.size:=fun b hb=>⟨by show @Ne Nat _ _; omega,Nat.ne_of_lt hb⟩
 have old:∀ b o,s2.heap.get? b=some o→h1.get? b=some o:=fun b o e=>hsb1.extBut b o (below b (Heap.lt_size e)).1 (Heap.get?_push_of_some _ (hH2▸Heap.get?_push_of_some _ e))
 have hacc:h1.get? s2.heap.objs.size=some {cls:=.type "list",data:=.seq ([]:List Value).toArray 0}:=hsb1.extBut _ _ hDC (Heap.get?_push_of_some _ (hH2▸Heap.get?_push_size _ rfl))
 have hst1:tn 0 h1:=T.keep _ _ _ st2 fun b hb o e=>old b o e
 let X':=ao X N' scope cl G.objs.size fp s2 H2
 obtain⟨W,⟨m0,w0⟩,turn⟩:=cok cl G.objs.size fp s2 H2
 have hXe:X'.xe=X.xe:=rfl
 have stat:∀ {H':Hp} {ps:List (Addr×Obj)},(∀ b∈fp,H' b=none)→(∀ p∈ps,p.1=s2.heap.objs.size)→∀ b∈fp,dS X' ps H' b:=fun {H' ps} hn hp b hb=>by
  obtain⟨f0,f1,ff,f3,f4,f5⟩:=f2 b hb
  refine⟨hn b hb,(below b (fl b hb)).1,fun z=>?_,.inl hb,fun x c e z=>?_,fun p hp' z=>?_⟩
  ·exact(List.mem_cons.mp (I2.stkSub b z)).elim f1 ff
  ·exact f4 x c (c1 x c e) z
  ·have e:p.1=s2.heap.objs.size:=hp p (by simpa [X',ao] using hp')
   exact(below b (fl b hb)).2 (z.symm.trans e)
 have loop:∀ s3:Shared,s3={s2 with heap:=h1,toks:=s2.toks+([]:List (Str×Value)).length}→
   codeAny (model X.prog X.w) X.A (.compLoop (.ListComp elt [⟨tg,iter,[],0⟩] scope pos) 0 (.ref it) (.ref s2.heap.objs.size) (compEnvC scope cl G.objs.size X.env))
    (fun r s'=>match r with | .ok _=>b7 X pins σ Q (.ref s2.heap.objs.size) G.objs.size s' | .error _=>False) s3:=by
  rintro s3 rfl
  have I3:=mM (us:=[]) (k:=0) (s':={s2 with heap:=h1,toks:=s2.toks+([]:List (Str×Value)).length}) S c1 c2 I2 f2 fl rfl hC rfl rfl old ⟨_,hns1⟩ hacc
  refine eJ (fun m s'=>∃ i ys us k σ' H',Inv X' [(s2.heap.objs.size,{cls:=.type "list",data:=.seq (us:List Value).toArray k})] σ' H' s'∧aw ys us∧tn i s'.heap∧(∀ b∈fp,H' b=none)∧ys.length≤sizeLine∧W i m ys σ' H') ?_ m0
   ⟨0,[],[],0,_,H2,I3,.nil,hst1,fun b hb=>(f2 b hb).1,Nat.zero_le _,w0⟩
  rintro m s' ⟨i,ys,us,k,σ',H',I',rv,st',fr',hlen,w'⟩
  rcases turn i m ys σ' H' w' with ⟨stop,q⟩ | ⟨go,hlt,step⟩
  ·refine thn (T.done X' rfl rfl rfl hc i _ s' σ' H' _ I' (stat fr' (by simp)) st' stop) fun r s4 ⟨hr,I4⟩=>?_
   subst hr
   show b7 X pins σ Q (.ref s2.heap.objs.size) G.objs.size s4
   obtain⟨m1,hn1,_⟩:=I4.loc
   obtain⟨pD,nD,_,_,_⟩:=I4.pin (s2.heap.objs.size,{cls:=.type "list",data:=.seq us.toArray k}) (List.mem_append_right _ (by simp))
   have nD:H' s2.heap.objs.size=none:=nD
   have pD:s4.heap.get? s2.heap.objs.size=some {cls:=.type "list",data:=.seq us.toArray k}:=pD
   have hok:HOk X.prog X.w (upd H' s2.heap.objs.size (.lst ys)) s4.heap:=fun b u e=>by
    by_cases hb:b=s2.heap.objs.size
    ·subst hb
     rw [aa] at e; cases e
     exact⟨hlen,us,k,rv,pD⟩
    ·rw [ad hb] at e
     exact(I4.hok b u e).stay (fun _ _ _ q=>q) (fun c q=>by rw [ad (ae q nD)]; exact q) fun c xs q=>by rw [ad (ae q nD)]; exact q
   have un:Un (frs X.stack) fp H2 (upd H' s2.heap.objs.size (.lst ys)) s2.heap s4.heap:=by
    have u0:=I4.base
    refine⟨u0.keep,u0.slot,fun b o e n hx=>?_,u0.there,fun b xs e=>?_,fun b o xs e=>?_,fun b ps e=>?_⟩
    ·rw [ad (below b (Heap.lt_size e)).2]; exact u0.free b o e n hx
    ·have q:=u0.tups b xs e
     rw [ad (ae q nD)]; exact q
    ·have q:=u0.frzs b o xs e
     rw [ad (ae q nD)]; exact q
    ·obtain⟨more,q⟩:=u0.tbls b ps e
     exact⟨more,by rw [ad (ae q nD)]; exact q⟩
   have IX:Inv X pins σ (upd H' s2.heap.objs.size (.lst ys)) s4:=I2.call' (ch:=fp) I4.os un hok I4.bare fun b hb=>by
    obtain⟨f0,f1,ff,f3,f4,f5⟩:=f2 b hb
    exact⟨f3,f1,f4,f5⟩
   have hG0:H' G.objs.size=none:=I4.free
   refine⟨s2.heap.objs.size,_,m1,rfl,IX,hn1,⟨by rw [ad (Ne.symm hDC)]; exact hG0,fun z=>?_,fun z=>?_,.inr ?_,fun x c e z=>?_,fun p hp z=>?_⟩,q _ nD⟩
   ·have q1:@LT.lt Nat _ X.env.locals s2.heap.objs.size:=I2.lt
    have q2:@Eq Nat G.objs.size X.env.locals:=z
    omega
   ·have z':G.objs.size∈frs X.outer:=z
    obtain⟨_,o,ho,_⟩:=I2.funs.mem z'
    have q1:@LT.lt Nat _ G.objs.size s2.heap.objs.size:=Heap.lt_size ho
    omega
   ·have q1:=I2.sz
    show @LE.le Nat _ X.s₀.heap.objs.size G.objs.size
    omega
   ·have q1:=celll x c e
    have q2:@Eq Nat c G.objs.size:=z
    omega
   ·have q1:@LT.lt Nat _ p.1 s2.heap.objs.size:=Heap.lt_size (I2.pin p hp).1
    have q2:@Eq Nat p.1 G.objs.size:=z
    omega
  ·refine thn (T.item X' rfl rfl rfl hc i _ s' σ' H' _ I' (stat fr' (by simp)) st' go) fun r s4 ⟨u,hr,h4⟩=>?_
   subst hr
   show wpAny _ _ (letOwnedTupleGo tg (.ref it) u) _ _ s4
   refine thn h4 fun _ s5 ⟨x,H5,I5,r5,y5,st5,fr5⟩=>?_
   have I5':=I5.pinned (stat fr5 (by simp)) (T.obj _ _ st5)
   have w1:=hg cl G.objs.size fp s2 H2 _ s5 σ' H5 x u _ I5' r5 (step x H5 y5)
   refine wpAny_mono w1 (fun _ s6 ⟨σ6,H6,I6,q6⟩=>?_) fun v s hv=>absurd hv (hE v s)
   obtain⟨NN,q6,hNN⟩:=q6
   have w2:=he cl G.objs.size fp s2 H2 _ s6 σ6 H6 _ I6 q6
   refine wpAny_mono w2 (fun y s7 ⟨v,H7,I7,r7,q7⟩=>?_) fun v s hv=>absurd hv (hE v s)
   obtain⟨m',hm',w7⟩:=hNN v H7 q7
   have pinD:=I7.pin (s2.heap.objs.size,{cls:=.type "list",data:=.seq us.toArray k}) (List.mem_append_right _ (List.mem_append_left _ (by simp)))
   obtain⟨pD,nD,lD,fD,_⟩:=pinD
   refine append_at (hsz:=by rw [List.size_toArray,← rv.length]; exact hlen) pD fun h8 hs8 hD8=>?_
   have nD:H7 s2.heap.objs.size=none:=nD
   have I8:Inv X' (bW fp s5.heap) σ6 H7 {s7 with heap:=h8}:=by
    refine(I7.pins_of (pins':=bW fp s5.heap) fun p hp=>I7.pin p (List.mem_append_right _ (List.mem_append_right _ hp))).turned (t':=s7.toks) (it:=s2.heap.objs.size) (fun b o hb e=>(hs8.2 b hb).trans e) nD lD (.inr (Nat.le_refl _)) (fun x c e z=>?_) fun p hp z=>?_
    ·have q1:=celll x c (c1 x c e)
     have q2:@Eq Nat c s2.heap.objs.size:=z
     omega
    ·have hp':p∈bW fp s5.heap:=by simpa [X',ao] using hp
     have q1:=fl p.1 (eL hp').1
     have q2:@Eq Nat p.1 s2.heap.objs.size:=z
     omega
   have I9:Inv X' [(s2.heap.objs.size,{cls:=.type "list",data:=.seq (us++[y]).toArray (k+1)})] σ6 H7 {s7 with heap:=h8}:=I8.pins_of fun p hp=>by
    have e:p=(s2.heap.objs.size,{cls:=.type "list",data:=.seq (us++[y]).toArray (k+1)}):=by simpa using hp
    subst e
    refine⟨by rw [hD8,List.push_toArray],nD,lD,fD,fun v z=>by cases z⟩
   refine⟨m',hm',i+1,ys++[v],us++[y],k+1,σ6,H7,I9,rv.append (.cons r7 .nil),T.keep _ _ _ st5 fun b hb o e=>?_,fun b hb=>?_,by rw [List.length_append,List.length_singleton]; omega,w7⟩
   ·exact(I8.pin (b,o) (List.mem_append_right _ (aP hb e))).1
   ·obtain⟨o,e,d⟩:=T.obj _ _ st5 b hb
    exact(I8.pin (b,o) (List.mem_append_right _ (aP hb e))).2.1
 exact codeAny_compStart_list (loop _ rfl) (T.self _ 0 _ _ _ hst1 (loop _ rfl))
theorem vF{wi:TI}{g:aA TG}{te:aA TE}(hE:∀ v s,¬ X.xe v s)(hc:X.calm=true)(S:aM n N' X scope)(hi:PI X tg iter wi)
  (hg:∀ cl C ex s H,PG (ao X N' scope cl C ex s H) tg (g cl C ex s H)) (he:∀ cl C ex s H,PE (ao X N' scope cl C ex s H) elt (te cl C ex s H))
  (hs:∀ x,foldedSetIterable iter X.env x=pure x:=by intro _; rfl):PE X (.ListComp elt [⟨tg,iter,[],0⟩] scope pos) (xc n wi g te):=by
 intro pins s σ H Q I h
 rw [eval_ListComp]
 obtain⟨cl,hcl,c1,c2⟩:=dQ (scope:=scope) (env:=X.env) fun x hx hf=>I.ok.has x.1 (S.free x hx hf)
 refine wpAny_comprehension_free (use:=none) rfl hs hcl S.kind S.names (thn (hi pins s σ H _ I h) fun v s1 h1=>thn h1 fun itv s2 h2=>?_)
 obtain⟨it,fp,tn,J,H2,e,I2,T,st2,f2,cok⟩:=h2
 subst e
 refine wpAny_mono (i5 (pos:=pos) (iter:=iter) (Q:=Q) (E:=X.xe) hE hc S c1 c2 I2 T st2 f2 hg he cok) (fun acc s3 h3=>wpAny_mono h3 (fun cenv s4 h4=>codeAny_mono h4 fun r s' hr=>?_) fun _ _ z=>z) fun _ _ z=>z
 cases r with
 | error e=>exact False.elim hr
 | ok f=>
  obtain⟨D,H',m,rfl,I',hn,⟨f0,f1,ff,f3,f4,f5⟩,q⟩:=hr
  refine⟨m,hn,fun h' hs'=>⟨.ref D,H',?_,rfl,q⟩⟩
  exact I'.turned (t':=s'.toks) (fun b o hb e=>(hs'.2 b hb).trans e) f0 f1 f3 f4 f5
theorem nB{wi:TI}{g:aA TG}{te:aA TE}{i:Nat}{x:Str}{pos' spos:Pos}(hN:X.N.Nodup)(hi0:X.N[i]? = some x)(hx:Loc X.env.scope x)
  (hsw:swapsWith (.ListComp elt [⟨tg,iter,[],0⟩] scope pos) (some (.Name x pos')) spos.line X.env=pure true)
  (hE:∀ v s,¬ X.xe v s) (hc:X.calm=true) (S:aM n N' X scope) (hi:PI X tg iter wi)
  (hg:∀ cl C ex s H,PG (ao X N' scope cl C ex s H) tg (g cl C ex s H)) (he:∀ cl C ex s H,PE (ao X N' scope cl C ex s H) elt (te cl C ex s H))
  (hs:∀ x,foldedSetIterable iter X.env x=pure x:=by intro _; rfl) (hf:X.fn x=true∨X.env.scope.names.lookup x=some .local:=by first | exact .inl rfl | exact .inr rfl | assumption) :
  PS X (.Assign [.Name x pos'] (.ListComp elt [⟨tg,iter,[],0⟩] scope pos) spos) (j4 (xc n wi g te) (aV i)):=by
 intro pins s σ H D I h
 rw [exec_Assign_Name_used _ _ _ _ hsw]
 refine wpAny_bind (wpAny_standAt (wpAny_bind ?_))
 obtain⟨cl,hcl,c1,c2⟩:=dQ (scope:=scope) (env:=X.env) fun x hx hf=>I.ok.has x.1 (S.free x hx hf)
 show wpAny _ _ (do let _ ← comprehension (.ListComp elt [⟨tg,iter,[],0⟩] scope pos) scope X.env _ (newList []) false (eval iter X.env) (some (assign (.Name x pos') X.env))) _ _ s
 refine wpAny_bind (wpAny_mono (wpAny_comprehension_free (use:=some (assign (.Name x pos') X.env)) (Q:=fun _ s'=>SP X pins D .next s') rfl hs hcl S.kind S.names
  (thn (hi pins s σ H _ I h) fun v s1 h1=>thn h1 fun itv s2 h2=>?_)) (fun _ s' hq=>wpAny_pure (wpAny_pure hq)) fun _ _ e=>e)
 obtain⟨it,fp,tn,J,H2,e,I2,T,st2,f2,cok⟩:=h2
 subst e
 refine wpAny_mono (i5 (pos:=pos) (iter:=iter) (E:=X.xe) (Q:=fun x H1=>aV i x σ H1 D.nx) hE hc S c1 c2 I2 T st2 f2 hg he cok) (fun acc s3 h3=>wpAny_mono h3 (fun cenv s4 h4=>codeAny_mono h4 fun r s' hr=>?_) fun _ _ z=>z) fun _ _ z=>z
 cases r with
 | error e=>exact False.elim hr
 | ok f=>
  obtain⟨Dl,H',m,rfl,I',hn,⟨f0,f1,ff,f3,f4,f5⟩,q⟩:=hr
  show wpAny _ _ (assign (.Name x pos') X.env (.ref Dl)) _ _ s'
  refine wpAny_assign_Name (gu I' hN hi0 hx (v:=.ref Dl) (u:=.ref Dl) rfl (fun s'' I'' hb=>?_) hf)
  obtain⟨a,sb,ha⟩:=hb
  have hCa:cenv.locals≠a:=by
   rcases ha with rfl | ha
   ·exact f1
   ·exact fun z=>f4 x a ha z.symm
  refine⟨m,hn.sameBut sb hCa,fun h' hs'=>⟨_,H',?_,q⟩⟩
  exact I''.turned (t':=s''.toks) (fun b o hb e=>(hs'.2 b hb).trans e) f0 f1 f3 f4 f5
end
section
variable{X:Cx}{tg:Expr}
def Its(z:Str):It:=⟨fun i _=>i<z.cps.size,fun i H x H'=>H'=H∧∃ c,z.cps[i]? = some c∧x=.str ⟨#[c]⟩,fun i _=>z.cps.size≤i⟩
theorem rq{P:Program}{w:World}{K:PySem.W.Frag}{tg:Expr}{T:String}{t:Tok}(it:Addr)(z:Str)
  (hT:T="str_ascii_iterator"∨T="str_iterator") (W:∀ A:Around,A.handled=none→Walks P w A it [it] [it] z.cps.size (SignAt z) (fun i h=>h.IsStrIter it T z t i)) :
  ic P w K tg (Its z) [it] it (fun i h=>h.IsStrIter it T z t i) where
 mem:=by simp
 obj:=fun i h st b hb=>by
  have e:b=it:=by simpa using hb
  subst e
  obtain⟨o,e,c,d⟩:=st
  exact⟨o,e,fun v z=>by rw [d] at z; cases z⟩
 keep:=fun i h h' st k=>by
  obtain⟨o,e,r⟩:=st
  exact⟨o,k it (by simp) o e,r⟩
 item:=by
  intro X hP hw hK hc i pins s σ H E I hf st hg
  subst hP hw hK
  obtain⟨f0,f1,f2,f3,f4,f5⟩:=hf it (by simp)
  refine(W _ (I.ok.hd hc)).item i s _ _ hg st fun v h' tk hv st' kk=>?_
  obtain⟨c,u,hcu,rfl⟩:=hv
  have I1:Inv X pins σ H {s with heap:=h',toks:=tk}:=I.turned (fun b o hb e=>kk b o (by simpa using hb) e) f0 f1 f3 f4 f5
  obtain⟨o,e,cc,d⟩:=id st'
  refine⟨_,rfl,pv (s:={s with heap:=h',toks:=tk}) (n:=T) e cc d ?_ ⟨.str ⟨#[c]⟩,H,I1,⟨u,rfl⟩,⟨rfl,c,hcu,rfl⟩,st',fun b hb=>(hf b hb).1⟩⟩
  rcases hT with rfl | rfl <;> decide
 done:=by
  intro X hP hw hK hc i pins s σ H E I hf st hg
  subst hP hw hK
  obtain⟨f0,f1,f2,f3,f4,f5⟩:=hf it (by simp)
  have hg:z.cps.size≤i:=hg
  rcases hT with rfl | rfl
  ·exact wpAny_pyNext_ascii_end (I.ok.hd hc) st (by simp; omega) fun h' eb=>⟨rfl,I.turned (t':=s.toks) (fun b o hb e=>eb b o hb e) f0 f1 f3 f4 f5⟩
  ·exact wpAny_pyNext_wide_end (I.ok.hd hc) st (by simp; omega) fun h' eb=>⟨rfl,I.turned (t':=s.toks) (fun b o hb e=>eb b o hb e) f0 f1 f3 f4 f5⟩
 self:=fun A i s Q E st h=>by
  rcases hT with rfl | rfl
  ·exact wpAny_pyIter_striter_ascii st h
  ·exact wpAny_pyIter_striter_wide st h
inductive iStrI(R:(It→Hp→Prop))(x:V)(H1:Hp):Prop where
 | mk:∀ z,x=.str z→R (Its z) H1→iStrI R x H1
def AN(tl:TE):TI:=fun σ H R=>tl σ H fun x H1=>iStrI R x H1
theorem xU{l:Expr}{tl:TE}(hl:PE X l tl):PI X tg l (AN tl):=by
 intro pins s σ H R I h
 refine thn (hl pins s σ H _ I h) fun v s1 ⟨x,H1,I1,r1,q1⟩=>?_
 obtain⟨z,e,q⟩:=q1
 subst e
 obtain⟨t,rfl⟩:=r1
 have fin:∀ (T:String) (o:Obj),(T="str_ascii_iterator"∨T="str_iterator")→(∀ A:Around,A.handled=none→Walks X.prog X.w A s1.heap.objs.size [s1.heap.objs.size] [s1.heap.objs.size] z.cps.size (SignAt z) (fun i h=>h.IsStrIter s1.heap.objs.size T z t i))→
   (s1.heap.push o).IsStrIter s1.heap.objs.size T z t 0→PIE X pins σ tg R (.ref s1.heap.objs.size) {s1 with heap:=s1.heap.push o}:=fun T o hT W st=>
  ⟨s1.heap.objs.size,[s1.heap.objs.size],_,_,H1,rfl,I1.kept (t':=s1.toks) fun b o e=>Heap.get?_push_of_some _ e,rq _ z hT W,st,fun b hb=>by
   have e:b=s1.heap.objs.size:=by simpa using hb
   subst e
   exact I1.fpOk (Nat.le_refl _) (I1.hok.fresh (Nat.le_refl _)),q⟩
 cases ha:z.cps.all (· < 128)
 ·exact wpAny_pyIter_wide ha (fin "str_iterator" _ (.inr rfl) (fun A hA=>Walks.strWide hA _ z t) ⟨_,Heap.get?_push_size _ rfl,rfl,rfl⟩)
 ·exact wpAny_pyIter_ascii ha (fin "str_ascii_iterator" _ (.inl rfl) (fun A hA=>Walks.strAscii hA _ z t) ⟨_,Heap.get?_push_size _ rfl,rfl,rfl⟩)
section forms
variable{J:It}{K:PySem.W.Frag}{a:Addr}{xs:List V}{te:TE}{σ:St}{H:Hp}{Q:VK}
theorem aN(n:Nat)(Pv:Nat→List V→Hp→Prop)(Vx:Nat→V→Prop)(h0:Pv 0 [] H)(hz:n≤sizeLine)(hgo:∀ i ys H,i<n→ys.length=i→Pv i ys H→J.go i H∧∀ x H',J.yld i H x H'→H'=H∧Vx i x)
  (hstop:∀ ys H,ys.length=n→Pv n ys H→J.stop n H)
  (hs:∀ i x ys H,i<n→Vx i x→ys.length=i→Pv i ys H→te (some x::σ) H fun v H3=>Pv (i+1) (ys++[v]) H3)
  (hd:∀ ys H,ys.length=n→Pv n ys H→∀ D,H D=none→Q (.ref D) (upd H D (.lst ys))):fS 1 J (aV 0) te σ H Q:=by
 refine⟨fun i m ys σ' H=>m=n-i∧i≤n∧ys.length=i∧(∃ o,σ'=o::σ)∧Pv i ys H,⟨n,by simp,Nat.zero_le _,rfl,⟨none,rfl⟩,h0⟩,?_⟩
 rintro i m ys σ' H ⟨rfl,hi,hy,⟨o,rfl⟩,p⟩
 by_cases hlt:i<n
 ·obtain⟨g1,g2⟩:=hgo i ys H hlt hy p
  refine .inr ⟨g1,by omega,fun x H' y=>?_⟩
  obtain⟨e,hx⟩:=g2 x H' y
  subst e
  exact⟨fun v H3=>Pv (i+1) (ys++[v]) H3,hs i x ys _ hlt hx hy p,fun v H3 h3=>⟨n - (i+1),by omega,rfl,hlt,by simp [hy],⟨_,rfl⟩,h3⟩⟩
 ·obtain rfl:i=n:=by omega
  exact .inl ⟨hstop ys H hy p,hd ys H hy p⟩
theorem mL(n:Nat)(Pv:Nat→List V→Hp→Prop)(Vx:Nat→V→V→Prop)(h0:Pv 0 [] H)(hz:n≤sizeLine)(hgo:∀ i ys H,i<n→ys.length=i→Pv i ys H→J.go i H∧∀ x H',J.yld i H x H'→H'=H∧∃ p u v,x=.ref p∧SqT K H p [u,v]∧Vx i u v)
  (hstop:∀ ys H,ys.length=n→Pv n ys H→J.stop n H)
  (hs:∀ i u v ys H,i<n→Vx i u v→ys.length=i→Pv i ys H→te (some u::some v::σ) H fun y H3=>Pv (i+1) (ys++[y]) H3)
  (hd:∀ ys H,ys.length=n→Pv n ys H→∀ D,H D=none→Q (.ref D) (upd H D (.lst ys))):fS 2 J (qJ K 2 (cW (aV 0) (cW (aV 1) qK))) te σ H Q:=by
 refine⟨fun i m ys σ' H=>m=n-i∧i≤n∧ys.length=i∧(∃ o1 o2,σ'=o1::o2::σ)∧Pv i ys H,⟨n,by simp,Nat.zero_le _,rfl,⟨none,none,rfl⟩,h0⟩,?_⟩
 rintro i m ys σ' H ⟨rfl,hi,hy,⟨o1,o2,rfl⟩,p⟩
 by_cases hlt:i<n
 ·obtain⟨g1,g2⟩:=hgo i ys H hlt hy p
  refine .inr ⟨g1,by omega,fun x H' y=>?_⟩
  obtain⟨e,pp,u,v,rfl,hq,hx⟩:=g2 x H' y
  subst e
  refine⟨pp,[u,v],rfl,hq,rfl,u,[v],rfl,v,[],rfl,rfl,?_⟩
  exact⟨fun v H3=>Pv (i+1) (ys++[v]) H3,hs i u v ys _ hlt hx hy p,fun v H3 h3=>⟨n - (i+1),by omega,rfl,hlt,by simp [hy],⟨_,_,rfl⟩,h3⟩⟩
 ·obtain rfl:i=n:=by omega
  exact .inl ⟨hstop ys H hy p,hd ys H hy p⟩
theorem mK(n:Nat)(Pv:Nat→List V→Hp→Prop)(Vx:Nat→V→V→V→Prop)(h0:Pv 0 [] H)(hz:n≤sizeLine)(hgo:∀ i ys H,i<n→ys.length=i→Pv i ys H→J.go i H∧∀ x H',J.yld i H x H'→H'=H∧∃ p u v w,x=.ref p∧SqT K H p [u,v,w]∧Vx i u v w)
  (hstop:∀ ys H,ys.length=n→Pv n ys H→J.stop n H)
  (hs:∀ i u v w ys H,i<n→Vx i u v w→ys.length=i→Pv i ys H→te (some u::some v::some w::σ) H fun y H3=>Pv (i+1) (ys++[y]) H3)
  (hd:∀ ys H,ys.length=n→Pv n ys H→∀ D,H D=none→Q (.ref D) (upd H D (.lst ys))):fS 3 J (qJ K 3 (cW (aV 0) (cW (aV 1) (cW (aV 2) qK)))) te σ H Q:=by
 refine⟨fun i m ys σ' H=>m=n-i∧i≤n∧ys.length=i∧(∃ o1 o2 o3,σ'=o1::o2::o3::σ)∧Pv i ys H,⟨n,by simp,Nat.zero_le _,rfl,⟨none,none,none,rfl⟩,h0⟩,?_⟩
 rintro i m ys σ' H ⟨rfl,hi,hy,⟨o1,o2,o3,rfl⟩,p⟩
 by_cases hlt:i<n
 ·obtain⟨g1,g2⟩:=hgo i ys H hlt hy p
  refine .inr ⟨g1,by omega,fun x H' y=>?_⟩
  obtain⟨e,pp,u,v,w,rfl,hq,hx⟩:=g2 x H' y
  subst e
  refine⟨pp,[u,v,w],rfl,hq,rfl,u,[v,w],rfl,v,[w],rfl,w,[],rfl,rfl,?_⟩
  exact⟨fun v H3=>Pv (i+1) (ys++[v]) H3,hs i u v w ys _ hlt hx hy p,fun v H3 h3=>⟨n - (i+1),by omega,rfl,hlt,by simp [hy],⟨_,_,_,rfl⟩,h3⟩⟩
 ·obtain rfl:i=n:=by omega
  exact .inl ⟨hstop ys H hy p,hd ys H hy p⟩
theorem bm{i:Nat}(hq:SqL K H a xs)(hlt:i<xs.length):(Itl K a).go i H∧∀ x H',(Itl K a).yld i H x H'→H'=H∧xs[i]? = some x:=
 ⟨⟨xs,xs[i],hq,by simp [hlt]⟩,fun x H' ⟨e,y⟩=>⟨e,y xs hq⟩⟩
theorem aO(hq:SqL K H a xs):(Itl K a).stop xs.length H:=⟨xs,hq,Nat.le_refl _⟩
theorem og{i:Nat}(hq:SqT K H a xs)(hlt:i<xs.length):(Itt K a).go i H∧∀ x H',(Itt K a).yld i H x H'→H'=H∧xs[i]? = some x:=
 ⟨⟨xs,xs[i],hq,by simp [hlt]⟩,fun x H' ⟨e,y⟩=>⟨e,y xs hq⟩⟩
theorem ld(hq:SqT K H a xs):(Itt K a).stop xs.length H:=⟨xs,hq,Nat.le_refl _⟩
theorem kM{lo:Int}{n i:Nat}(hlt:i<n):(Itr lo n).go i H∧∀ x H',(Itr lo n).yld i H x H'→H'=H∧x=.int (lo+i):=⟨hlt,fun _ _ y=>y⟩
theorem lg{lo:Int}{n:Nat}:(Itr lo n).stop n H:=Nat.le_refl n
theorem yJ{z:Str}{i:Nat}(hlt:i<z.cps.size):(Its z).go i H∧∀ x H',(Its z).yld i H x H'→H'=H∧∃ c,z.cps[i]? = some c∧x=.str ⟨#[c]⟩:=⟨hlt,fun _ _ y=>y⟩
theorem rN{z:Str}:(Its z).stop z.cps.size H:=Nat.le_refl z.cps.size
end forms
inductive rCall_allBI(K:PySem.W.Frag)(xs:List V)(H:Hp)(Q:VK):Prop where
 | mk:∀ (p:Addr) (bs:List Bool),xs=[.ref p]→SqL K H p (bs.map V.bl)→Q (.bl (bs.all id)) H→rCall_allBI K xs H Q
theorem qZ(hc:X.calm=true):cv X (.builtin "all") (fun xs H Q=>rCall_allBI X.K xs H Q):=by
 intro pins s σ H xs us Q I r h
 obtain⟨p,bs,rfl,hq,q⟩:=h
 obtain⟨u,rfl,rx⟩:=ci r
 cases rx
 obtain⟨its,r',pl,hz⟩:=I.list hq
 have hlen:=r'.length
 rw [List.length_map] at hlen
 have hit:∀ (i:Nat) (v:Value),its[i]? = some v→∃ b,bs[i]? = some b∧v=Value.bool b:=fun i v e=>by
  have hi:i<its.length:=(List.getElem?_eq_some_iff.mp e).1
  have hb:i<bs.length:=by omega
  obtain⟨u,hu,ru⟩:=r'.get (i:=i) (x:=V.bl bs[i]) (by simp [hb])
  rw [e] at hu; cases hu
  exact⟨bs[i],by simp [hb],ru⟩
 refine call_all_walk (wpAny_pyIter_list pl.isList ?_)
 have hp:p<s.heap.objs.size:=by obtain⟨o,n,e,_⟩:=pl; exact Heap.lt_size e
 refine⟨s.heap.objs.size,[s.heap.objs.size,p],[s.heap.objs.size],its.toArray.size,_,_,fun i=>bs.getD i false,rfl,Walks.list (by simpa using I.ok.hd hc) _ p (Nat.ne_of_lt hp) its.toArray,⟨⟨_,Heap.get?_push_size _ rfl,rfl,rfl⟩,pl.isList.push _⟩,fun i v s Q E hP hQ=>?_,fun h' tk kk=>?_⟩
 ·obtain⟨b,hb,rfl⟩:=hit i v (by simpa using hP)
  have e:bs.getD i false=b:=by simp [List.getD,hb]
  have hQ':Q (bs.getD i false) s:=hQ
  rw [e] at hQ'
  exact wpAny_truthy_bool hQ'
 ·have e:((List.range its.toArray.size).all fun i=>bs.getD i false)=bs.all id:=by
   rw [List.size_toArray,← hlen]
   rw [Bool.eq_iff_iff,List.all_eq_true,List.all_eq_true]
   constructor
   ·intro h b hb
    obtain⟨i,hi,rfl⟩:=List.mem_iff_getElem.mp hb
    have:=h i (List.mem_range.mpr hi)
    simpa [List.getD,hi] using this
   ·intro h i hi
    have hi':=List.mem_range.mp hi
    have:=h bs[i] (List.getElem_mem hi')
    simpa [List.getD,hi'] using this
  refine⟨.bl (bs.all id),H,?_,by rw [e]; rfl,q⟩
  exact I.kept fun b o eb=>kk b o (fun z=>Nat.ne_of_lt (Heap.lt_size eb) (by simpa using z)) (Heap.get?_push_of_some _ eb)
end
end L2
set_option maxHeartbeats 8000000
namespace L2
open PySem PySem.Spec PyProof.Rows
def b8(σ:List Str)(v:Str):List Str:=if σ.any (· == v) then σ else σ++[v]
def cA(val:Nat→Str)(i:Nat):List Str:=((List.range i).map val).foldl b8 []
theorem gK(val:Nat→Str)(i:Nat):cA val (i+1)=b8 (cA val i) (val i):=by
 unfold cA; rw [List.range_succ,List.map_append,List.foldl_append]; rfl
theorem eB(val:Nat→Str):∀ i,(cA val i).length≤i
 | 0=>Nat.le_refl _
 | i+1=>by
  rw [gK]; unfold b8
  have ih:=eB val i
  split
  ·omega
  ·rw [List.length_append,List.length_singleton]; omega
theorem pT(σ:List Str)(v k:Str):(b8 σ v).any (· == k)=(σ.any (· == k)||decide (k=v)):=by
 unfold b8
 by_cases h:σ.any (· == v)=true
 ·rw [if_pos h]
  by_cases e:k=v
  ·subst e; rw [h]; simp
  ·simp [e]
 ·rw [if_neg h,List.any_append]
  by_cases e:k=v
  ·subst e; simp
  ·have hb:(v==k)=false:=by
    rw [beq_eq_false_iff_ne]; exact fun h'=>e h'.symm
   simp [hb,e]
theorem j5(σ:List Str)(v:Str):(b8 σ v).length=if σ.any (· == v) then σ.length else σ.length+1:=by
 unfold b8; split <;> simp
section
variable{prog:Program}{w:World}{A:Around}{R:Result→Shared→Prop}{I:Addr}{fp wr:List Addr}{G:Array GenState→Array GenState→Prop}{n:Nat}{P:Nat→Value→Prop}{St:Nat→Shared→Prop}
theorem jz(W:WalksS prog w A.in1 I fp wr G n P St)(S:Addr)(hSf:S∉fp)
  (val:Nat→Str) (hval:∀ i v,P i v→∃ t,v=.str (val i) t) (hb:n+1<scanBound) :
  ∀ (k i:Nat) (s:Shared),n-i=k→i≤n→St i s→
   s.heap.SetOf (PySem.strKind prog w) S (fun k'=>(cA val i).any (· == k')) (cA val i).length→
   (∀ s',Moved (S::wr) G s s'→s'.heap.SetOf (PySem.strKind prog w) S (fun k'=>(cA val n).any (· == k')) (cA val n).length→R (.ok (.ret .none)) s')→
   codeAny (model prog w) A (.builtin "set.update.loop" ⟨[.ref S,.ref I],[]⟩) R s:=by
 have hSw:S∉wr:=fun h=>hSf (W.sub _ h)
 have hsub:∀ b∈wr,b∈S::wr:=fun b hb=>List.mem_cons_of_mem _ hb
 intro k
 induction k with
 | zero=>
  intro i s hk hi hst hS hR
  have hin:i=n:=by omega
  subst hin
  refine codeAny_builtin PyProof.Rows.F.entry_set_update_loop ?_
  rw [Around.under_plainId PyProof.Rows.F.plain_set_update_loop _]
  show wpAny _ A.in1 (pyNext (.ref I)>>=_) _ _ s
  refine wpAny_bind (W.done s _ _ hst fun s' hm=>?_)
  show wpAny _ A.in1 (ret Value.none) _ _ s'
  exact wpAny_pure (hR s' (hm.mono hsub) (by
   obtain⟨o,es,ep,t,ho,rest⟩:=hS
   exact⟨o,es,ep,t,hm.heap S _ hSw ho,rest⟩))
 | succ k ih=>
  intro i s hk hi hst hS hR
  have hlt:i<n:=by omega
  refine codeAny_builtin PyProof.Rows.F.entry_set_update_loop ?_
  rw [Around.under_plainId PyProof.Rows.F.plain_set_update_loop _]
  show wpAny _ A.in1 (pyNext (.ref I)>>=_) _ _ s
  refine wpAny_bind (W.item i s _ _ hlt hst fun v s' hP hst' hm=>?_)
  obtain⟨t,rfl⟩:=hval i v hP
  have hS':s'.heap.SetOf (PySem.strKind prog w) S (fun k'=>(cA val i).any (· == k')) (cA val i).length:=by
   obtain⟨o,es,ep,tb,ho,rest⟩:=hS
   exact⟨o,es,ep,tb,hm.heap S _ hSw ho,rest⟩
  have his:(PySem.strKind prog w).is (val i) (.str (val i) t)=true:=by show Value.isStrOf (val i) (.str (val i) t)=true; simp [Value.isStrOf]
  show wpAny _ A.in1 (holding [Value.str (val i) t] (setAdd S (.str (val i) t))>>=_) _ _ s'
  refine wpAny_bind (wpAny_holding ?_)
  unfold setAdd
  refine wpAny_holding ?_
  refine wpAny_bind ((PySem.strKind prog w).pyHash (k:=val i) his ?_)
  have hroom:(cA val i).length+1<scanBound:=by have:=eB val i; omega
  refine wpAny_setAddHashed_of (knd:=PySem.strKind prog w) (s:={s' with toks:=s'.toks+1}) his rfl hS' hroom fun h' hsb hS2=>?_
  have hSi:h'.SetOf (PySem.strKind prog w) S (fun k'=>(cA val (i+1)).any (· == k')) (cA val (i+1)).length:=
   SetOf_congr hS2 (fun k'=>by rw [gK,pT]) (by rw [gK,j5])
  refine wpAny_pure ⟨plainId_quiet PyProof.Rows.F.plain_set_update_loop _,ih (i+1) _ (by omega) hlt (W.frame _ s' _ _ hst' (Nat.le_succ _) fun b hb o e=>?_) hSi fun s'' hm'' hS''=>?_⟩
  ·rw [hsb.2 b (fun h:b=S=>hSf (by rw [← h]; exact hb))]; exact e
  ·refine hR s'' (Moved.trans W.gtrans ((hm.mono hsub).then_heap (Nat.le_succ _) fun b o hb e=>?_) hm'') hS''
   rw [hsb.2 b (fun h:b=S=>hb (by rw [h]; exact List.mem_cons_self))]; exact e
end
open Sem (wp)
theorem jd:isSubtype (.type "list") (.type "set")=pure false:=by rw [isSubtype_type]; kernel_rfl
theorem eW:isSubtype (.type "list") (.type "frozenset")=pure false:=by rw [isSubtype_type]; kernel_rfl
theorem i6{prog:Program}{w:World}{A:Around}{E:Value→Shared→Prop}{s:Shared}{l:Addr}{items:Array Value}{val:Nat→Str}{Q:Value→Shared→Prop}
  (hh:A.handled=none) (hl:s.heap.IsList l items) (hi:∀ (i:Nat) (v:Value),items[i]? = some v→∃ t,v=.str (val i) t) (hb:items.size+1<scanBound)
  (h:∀ (h':Heap) (tk:Nat),h'.SetOf (PySem.strKind prog w) s.heap.objs.size (fun k'=>(cA val items.size).any (· == k')) (cA val items.size).length→
   (∀ b o,b<s.heap.objs.size→s.heap.get? b=some o→h'.get? b=some o)→Q (.ref s.heap.objs.size) {s with heap:=h',toks:=tk}) :
  wpAny (model prog w) A (call (.type "set") [.ref l]) Q E s:=by
 obtain⟨c,tl,hmro⟩:=PySem.F.called_set.mro
 have hmade:=PySem.F.called_set.made
 have hsub:=PySem.F.called_set.sub
 refine wpAny_call (codeAny_of_tree ?_)
 show wpAny _ _ (callAny (.type "set") _) _ _ _
 refine wpAny_pure ⟨Code.quiet_builtin _ (by decide +kernel),codeAny_builtin PySem.F.entry_type_call ?_⟩
 rw [Around.under_plain (weight_type_call_type "set" [.ref l] []) rfl]
 have h1:=PySem.F.called_set.notType
 have h2:=PySem.F.called_set.canCreate
 have hct:=PySem.F.typeCall_set_1 (.ref l)
 repeat (any_goals (first | assumption | wp_step))
 refine codeAny_mono (code_set_new_1 (.ref l) (E:=E) (Q₁:=fun obj s₁=>∃ led:Bool,obj=.ref s.heap.objs.size∧s₁={s with heap:=s.heap.push {cls:=.type "set",dict:=none,data:=.set #[] 0 (.fresh 0 0 led)}}) fun led=>⟨led,rfl,rfl⟩) fun r s₁ hr=>?_
 cases r with
 | error e=>exact hr
 | ok fl=>
  cases fl with
  | ret obj=>
   obtain⟨led,rfl,rfl⟩:=hr
   have hS:(s.heap.push {cls:=.type "set",dict:=none,data:=.set #[] 0 (.fresh 0 0 led)}).get? s.heap.objs.size=some {cls:=.type "set",dict:=none,data:=.set #[] 0 (.fresh 0 0 led)}:=Heap.get?_push_size _ rfl
   have hT:Shared.TypeIs {s with heap:=s.heap.push {cls:=.type "set",dict:=none,data:=.set #[] 0 (.fresh 0 0 led)}} (.ref s.heap.objs.size) "set":=⟨_,hS,rfl⟩
   have hli:=PySem.F.called_set.init.lookup
   have hbi:=PySem.F.called_set.init.bind (.ref s.heap.objs.size)
   repeat (any_goals (first | assumption | wp_step))
   refine codeAny_mono (codeAny_call_builtin (R:=wants (fun r s₂=>r=.none∧∃ h' tk,s₂={s with heap:=h',toks:=tk}∧
     h'.SetOf (PySem.strKind prog w) s.heap.objs.size (fun k'=>(cA val items.size).any (· == k')) (cA val items.size).length∧
     (∀ b o,b<s.heap.objs.size→s.heap.get? b=some o→h'.get? b=some o)) E) PySem.F.called_set.init.plain PySem.F.entry_set_init (check_set_init_1 hT ?_)) fun r₂ s₂ hr₂=>?_
   ·obtain⟨ol,hol,hcl,nl,hdl⟩:=hl
    obtain⟨ocls,odict,odata,oslots⟩:=ol
    simp only at hcl hdl
    subst hcl; subst hdl
    have hol':(s.heap.push {cls:=.type "set",dict:=none,data:=.set #[] 0 (.fresh 0 0 led)}).get? l=some {cls:=.type "list",dict:=odict,data:=.seq items nl,slots:=oslots}:=Heap.get?_push_of_some _ hol
    have hsls:=jd
    have hslf:=eW
    have hne:(Value.type "list"==Value.type "dict")=false:=by decide
    have hl1:(s.heap.push {cls:=.type "set",dict:=none,data:=.set #[] 0 (.fresh 0 0 led)}).IsList l items:=⟨_,hol',rfl,nl,rfl⟩
    unfold Builtin.«set.__init__» noKeywords Builtin.Frozenset.updateFrom
    generalize hPI:pyIter=PI
    wp_walk
    subst hPI
    refine wpAny_pyIter_list hl1 ?_
    refine wpAny_bind (wpAny_runValue ?_)
    have hlS:l<s.heap.objs.size:=Heap.lt_size hol
    have hh3:A.in1.in1.in1.handled=none:=by simp [hh]
    have hneI:l≠(s.heap.push {cls:=.type "set",dict:=none,data:=.set #[] 0 (.fresh 0 0 led)}).objs.size:=by
     rw [Heap.size_push]; exact Nat.ne_of_lt (Nat.lt_succ_of_lt hlS)
    have hSf:s.heap.objs.size∉[(s.heap.push {cls:=.type "set",dict:=none,data:=.set #[] 0 (.fresh 0 0 led)}).objs.size,l]:=by
     rw [Heap.size_push]; simp only [List.mem_cons,List.mem_singleton,List.not_mem_nil,or_false,not_or]
     exact⟨Nat.ne_of_lt (Nat.lt_succ_self _),Nat.ne_of_gt hlS⟩
    refine jz ((Walks.list hh3 _ l hneI items).toS) s.heap.objs.size
     hSf val hi hb (items.size-0) 0 _ (by omega) (Nat.zero_le _)
     ⟨⟨_,Heap.get?_push_size _ rfl,rfl,rfl⟩,(hl1.push _)⟩ ?hS0 ?hR
    case hS0=>
     have hget:((s.heap.push {cls:=.type "set",dict:=none,data:=.set #[] 0 (.fresh 0 0 led)}).push {cls:=.type "list_iterator",data:=.fields #[.ref l,.int 0 0]}).get? s.heap.objs.size
       = some {cls:=.type "set",dict:=none,data:=.set #[] 0 (.fresh 0 0 led)}:=Heap.get?_push_of_some _ hS
     exact PyProof.Rows.SetOf_congr ((PyProof.Rows.setObjOf_fresh (knd:=PySem.strKind prog w) led).setOf hget (by unfold scanBound; omega)) (fun _=>rfl) rfl
    case hR=>
     intro s' hm hS'
     obtain⟨h',g',d',tk',os'⟩:=s'
     have eg:g'=s.gens:=hm.gens
     have ed:d'=s.drawn:=hm.drawn
     have eo:os'=s.os:=hm.os
     subst eg; subst ed; subst eo
     show wpAny _ _ _ _ _ _
     refine wpAny_pure ?_
     show wpAny _ _ (ret Value.none) _ _ _
     refine wpAny_pure ⟨rfl,h',tk',rfl,hS',fun b o hb e=>?_⟩
     have hb1:b≠s.heap.objs.size:=Nat.ne_of_lt hb
     have hb2:b≠(s.heap.push {cls:=.type "set",dict:=none,data:=.set #[] 0 (.fresh 0 0 led)}).objs.size:=by
      rw [Heap.size_push]; exact Nat.ne_of_lt (Nat.lt_succ_of_lt hb)
     exact hm.heap b o (by simp only [List.mem_cons,List.mem_singleton,List.not_mem_nil,or_false,not_or]; exact⟨hb1,hb2⟩) (Heap.get?_push_of_some _ (Heap.get?_push_of_some _ e))
   ·cases r₂ with
    | error e=>exact hr₂
    | ok fl₂=>
     cases fl₂ with
     | ret r=>
      obtain⟨rfl,h',tk,rfl,hS',hk'⟩:=hr₂
      repeat (any_goals (first | assumption | wp_step))
      exact h _ _ hS' hk'
     | _=>exact hr₂.elim
  | _=>exact hr.elim
theorem iy:isSubtype (.type "tuple") (.type "set")=pure false:=by rw [isSubtype_type]; kernel_rfl
theorem d6:isSubtype (.type "tuple") (.type "frozenset")=pure false:=by rw [isSubtype_type]; kernel_rfl
theorem ib{prog:Program}{w:World}{A:Around}{E:Value→Shared→Prop}{s:Shared}{l:Addr}{items:Array Value}{val:Nat→Str}{Q:Value→Shared→Prop}
  (hh:A.handled=none) (hl:s.heap.IsTuple l items) (hi:∀ (i:Nat) (v:Value),items[i]? = some v→∃ t,v=.str (val i) t) (hb:items.size+1<scanBound)
  (h:∀ (h':Heap) (tk:Nat),h'.SetOf (PySem.strKind prog w) s.heap.objs.size (fun k'=>(cA val items.size).any (· == k')) (cA val items.size).length→
   (∀ b o,b<s.heap.objs.size→s.heap.get? b=some o→h'.get? b=some o)→Q (.ref s.heap.objs.size) {s with heap:=h',toks:=tk}) :
  wpAny (model prog w) A (call (.type "set") [.ref l]) Q E s:=by
 obtain⟨c,tl,hmro⟩:=PySem.F.called_set.mro
 have hmade:=PySem.F.called_set.made
 have hsub:=PySem.F.called_set.sub
 refine wpAny_call (codeAny_of_tree ?_)
 show wpAny _ _ (callAny (.type "set") _) _ _ _
 refine wpAny_pure ⟨Code.quiet_builtin _ (by decide +kernel),codeAny_builtin PySem.F.entry_type_call ?_⟩
 rw [Around.under_plain (weight_type_call_type "set" [.ref l] []) rfl]
 have h1:=PySem.F.called_set.notType
 have h2:=PySem.F.called_set.canCreate
 have hct:=PySem.F.typeCall_set_1 (.ref l)
 repeat (any_goals (first | assumption | wp_step))
 refine codeAny_mono (code_set_new_1 (.ref l) (E:=E) (Q₁:=fun obj s₁=>∃ led:Bool,obj=.ref s.heap.objs.size∧s₁={s with heap:=s.heap.push {cls:=.type "set",dict:=none,data:=.set #[] 0 (.fresh 0 0 led)}}) fun led=>⟨led,rfl,rfl⟩) fun r s₁ hr=>?_
 cases r with
 | error e=>exact hr
 | ok fl=>
  cases fl with
  | ret obj=>
   obtain⟨led,rfl,rfl⟩:=hr
   have hS:(s.heap.push {cls:=.type "set",dict:=none,data:=.set #[] 0 (.fresh 0 0 led)}).get? s.heap.objs.size=some {cls:=.type "set",dict:=none,data:=.set #[] 0 (.fresh 0 0 led)}:=Heap.get?_push_size _ rfl
   have hT:Shared.TypeIs {s with heap:=s.heap.push {cls:=.type "set",dict:=none,data:=.set #[] 0 (.fresh 0 0 led)}} (.ref s.heap.objs.size) "set":=⟨_,hS,rfl⟩
   have hli:=PySem.F.called_set.init.lookup
   have hbi:=PySem.F.called_set.init.bind (.ref s.heap.objs.size)
   repeat (any_goals (first | assumption | wp_step))
   refine codeAny_mono (codeAny_call_builtin (R:=wants (fun r s₂=>r=.none∧∃ h' tk,s₂={s with heap:=h',toks:=tk}∧
     h'.SetOf (PySem.strKind prog w) s.heap.objs.size (fun k'=>(cA val items.size).any (· == k')) (cA val items.size).length∧
     (∀ b o,b<s.heap.objs.size→s.heap.get? b=some o→h'.get? b=some o)) E) PySem.F.called_set.init.plain PySem.F.entry_set_init (check_set_init_1 hT ?_)) fun r₂ s₂ hr₂=>?_
   ·obtain⟨ol,hol,hcl,nl,hdl⟩:=hl
    obtain⟨ocls,odict,odata,oslots⟩:=ol
    simp only at hcl hdl
    subst hcl; subst hdl
    have hol':(s.heap.push {cls:=.type "set",dict:=none,data:=.set #[] 0 (.fresh 0 0 led)}).get? l=some {cls:=.type "tuple",dict:=odict,data:=.seq items nl,slots:=oslots}:=Heap.get?_push_of_some _ hol
    have hsls:=iy
    have hslf:=d6
    have hne:(Value.type "tuple"==Value.type "dict")=false:=by decide
    have hl1:(s.heap.push {cls:=.type "set",dict:=none,data:=.set #[] 0 (.fresh 0 0 led)}).IsTuple l items:=⟨_,hol',rfl,nl,rfl⟩
    unfold Builtin.«set.__init__» noKeywords Builtin.Frozenset.updateFrom
    generalize hPI:pyIter=PI
    wp_walk
    subst hPI
    refine wpAny_pyIter_tuple hl1 ?_
    refine wpAny_bind (wpAny_runValue ?_)
    have hlS:l<s.heap.objs.size:=Heap.lt_size hol
    have hh3:A.in1.in1.in1.handled=none:=by simp [hh]
    have hneI:l≠(s.heap.push {cls:=.type "set",dict:=none,data:=.set #[] 0 (.fresh 0 0 led)}).objs.size:=by
     rw [Heap.size_push]; exact Nat.ne_of_lt (Nat.lt_succ_of_lt hlS)
    have hSf:s.heap.objs.size∉[(s.heap.push {cls:=.type "set",dict:=none,data:=.set #[] 0 (.fresh 0 0 led)}).objs.size,l]:=by
     rw [Heap.size_push]; simp only [List.mem_cons,List.mem_singleton,List.not_mem_nil,or_false,not_or]
     exact⟨Nat.ne_of_lt (Nat.lt_succ_self _),Nat.ne_of_gt hlS⟩
    refine jz ((Walks.tuple hh3 _ l hneI items).toS) s.heap.objs.size
     hSf val hi hb (items.size-0) 0 _ (by omega) (Nat.zero_le _)
     ⟨⟨_,Heap.get?_push_size _ rfl,rfl,rfl⟩,(hl1.push _)⟩ ?hS0 ?hR
    case hS0=>
     have hget:((s.heap.push {cls:=.type "set",dict:=none,data:=.set #[] 0 (.fresh 0 0 led)}).push {cls:=.type "tuple_iterator",data:=.fields #[.ref l,.int 0 0]}).get? s.heap.objs.size
       = some {cls:=.type "set",dict:=none,data:=.set #[] 0 (.fresh 0 0 led)}:=Heap.get?_push_of_some _ hS
     exact PyProof.Rows.SetOf_congr ((PyProof.Rows.setObjOf_fresh (knd:=PySem.strKind prog w) led).setOf hget (by unfold scanBound; omega)) (fun _=>rfl) rfl
    case hR=>
     intro s' hm hS'
     obtain⟨h',g',d',tk',os'⟩:=s'
     have eg:g'=s.gens:=hm.gens
     have ed:d'=s.drawn:=hm.drawn
     have eo:os'=s.os:=hm.os
     subst eg; subst ed; subst eo
     show wpAny _ _ _ _ _ _
     refine wpAny_pure ?_
     show wpAny _ _ (ret Value.none) _ _ _
     refine wpAny_pure ⟨rfl,h',tk',rfl,hS',fun b o hb e=>?_⟩
     have hb1:b≠s.heap.objs.size:=Nat.ne_of_lt hb
     have hb2:b≠(s.heap.push {cls:=.type "set",dict:=none,data:=.set #[] 0 (.fresh 0 0 led)}).objs.size:=by
      rw [Heap.size_push]; exact Nat.ne_of_lt (Nat.lt_succ_of_lt hb)
     exact hm.heap b o (by simp only [List.mem_cons,List.mem_singleton,List.not_mem_nil,or_false,not_or]; exact⟨hb1,hb2⟩) (Heap.get?_push_of_some _ (Heap.get?_push_of_some _ e))
   ·cases r₂ with
    | error e=>exact hr₂
    | ok fl₂=>
     cases fl₂ with
     | ret r=>
      obtain⟨rfl,h',tk,rfl,hS',hk'⟩:=hr₂
      repeat (any_goals (first | assumption | wp_step))
      exact h _ _ hS' hk'
     | _=>exact hr₂.elim
  | _=>exact hr.elim
def yU(P:Program)(w:World)(p:Addr)(xs:List Str):HO:=HO.ext fun h=>h.SetOf (PySem.strKind P w) p (fun k=>(xs.foldl b8 []).any (· == k)) (xs.foldl b8 []).length
theorem qv(xs:List Str):cA (fun i=>xs.getD i Str.empty) xs.length=xs.foldl b8 []:=by
 unfold cA
 congr 1
 apply List.ext_getElem
 ·simp
 ·intro i h1 h2
  simp [List.getD,h2]
theorem lc{xs:List Str}{its:List Value}(r:aw (xs.map V.str) its):∀ (i:Nat) (v:Value),its.toArray[i]? = some v→∃ t,v=.str (xs.getD i Str.empty) t:=fun i v e=>by
 have hlen:=r.length
 rw [List.length_map] at hlen
 have e:its[i]? = some v:=by simpa using e
 have hi:i<its.length:=(List.getElem?_eq_some_iff.mp e).1
 have hb:i<xs.length:=by omega
 obtain⟨u,hu,ru⟩:=r.get (i:=i) (x:=V.str xs[i]) (by simp [hb])
 rw [e] at hu; cases hu
 obtain⟨t,rfl⟩:=ru
 exact⟨t,by simp [List.getD,hb]⟩
section
variable{X:Cx}
inductive rCall_setTI(K:PySem.W.Frag)(P:Program)(w:World)(xs:List V)(H:Hp)(Q:VK):Prop where
 | mk:∀ (p:Addr) (ys:List Str),xs=[.ref p]→((SqL K H p (ys.map V.str)∨SqT K H p (ys.map V.str)))→ys.length+1<scanBound→(∀ d,H d=none→Q (.ref d) (upd H d (yU P w d ys)))→rCall_setTI K P w xs H Q
theorem qU(hc:X.calm=true):cv X (.type "set") (fun xs H Q=>rCall_setTI X.K X.prog X.w xs H Q):=by
 intro pins s σ H xs us Q I r h
 obtain⟨p,ys,rfl,hq,hb,q⟩:=h
 obtain⟨u,rfl,rx⟩:=ci r
 cases rx
 have fin:∀ (its:List Value),ys.length=its.length→∀ (h':Heap) (tk:Nat),h'.SetOf (PySem.strKind X.prog X.w) s.heap.objs.size (fun k'=>(cA (fun i=>ys.getD i Str.empty) its.toArray.size).any (· == k')) (cA (fun i=>ys.getD i Str.empty) its.toArray.size).length→
   (∀ b o,b<s.heap.objs.size→s.heap.get? b=some o→h'.get? b=some o)→EP X pins σ Q (.ref s.heap.objs.size) {s with heap:=h',toks:=tk}:=fun its hl h' tk hS kk=>by
  have esz:its.toArray.size=ys.length:=by rw [List.size_toArray,hl]
  rw [esz,qv] at hS
  refine⟨.ref s.heap.objs.size,_,I.laid (t':=tk) (fun b o e=>kk b o (Heap.lt_size e) e) (Nat.le_refl _) ?_,rfl,q _ (I.hok.fresh (Nat.le_refl _))⟩
  refine⟨hS,?_,fun h1 h2 a b=>?_⟩
  ·obtain⟨o,es,ep,t,ho,_⟩:=hS
   exact⟨o,ho⟩
  ·obtain⟨o,es,ep,t,ho,rest⟩:=a
   exact⟨o,es,ep,t,b o ho,rest⟩
 rcases hq with hq | hq
 ·obtain⟨its,r',pl,hz⟩:=I.list hq
  have hlen:=r'.length
  rw [List.length_map] at hlen
  exact i6 (val:=fun i=>ys.getD i Str.empty) (I.ok.hd hc) pl.isList (lc r') (by rw [List.size_toArray]; omega) (fin its hlen)
 ·obtain⟨its,r',pl,hz⟩:=I.tuple hq
  have hlen:=r'.length
  rw [List.length_map] at hlen
  exact ib (val:=fun i=>ys.getD i Str.empty) (I.ok.hd hc) pl (lc r') (by rw [List.size_toArray]; omega) (fin its hlen)
inductive rCall_lenTI(P:Program)(w:World)(xs:List V)(H:Hp)(Q:VK):Prop where
 | mk:∀ (p:Addr) (ys:List Str),xs=[.ref p]→H p=some (yU P w p ys)→Q (.int (ys.foldl b8 []).length) H→rCall_lenTI P w xs H Q
theorem qW:cv X (.builtin "len") (fun xs H Q=>rCall_lenTI X.prog X.w xs H Q):=by
 intro pins s σ H xs us Q I r h
 obtain⟨p,ys,rfl,hp,q⟩:=h
 obtain⟨u,rfl,rx⟩:=ci r
 cases rx
 obtain⟨hS,_,_⟩:=I.hok p _ hp
 have hS:s.heap.SetOf (PySem.strKind X.prog X.w) p (fun k=>(ys.foldl b8 []).any (· == k)) (ys.foldl b8 []).length:=hS
 obtain⟨o,es,ep,t,ho,hex,hd,_,_,hsb,hf,hn⟩:=hS
 refine call_len_set ho hex hd hf (by unfold scanBound at hsb; omega) ⟨.int (ys.foldl b8 []).length,H,I.tok _,⟨_,by rw [hn]⟩,q⟩
end
theorem g9:∀ (xs σ:List Str),xs.Nodup→(∀ x∈xs,¬ x∈σ)→(xs.foldl b8 σ).length=σ.length+xs.length
 | [],σ,_,_=>by simp
 | x::r,σ,h,hn=>by
  obtain⟨h1,h2⟩:=List.nodup_cons.mp h
  have e:b8 σ x=σ++[x]:=by
   unfold b8
   rw [if_neg]
   intro z
   obtain⟨y,hy,e⟩:=List.any_eq_true.mp z
   exact hn x List.mem_cons_self (by rw [← eq_of_beq e]; exact hy)
  rw [List.foldl_cons,e,g9 r _ h2 fun y hy z=>?_]
  ·simp; omega
  ·rcases List.mem_append.mp z with q | q
   ·exact hn y (List.mem_cons_of_mem _ hy) q
   ·exact h1 (by rw [← List.mem_singleton.mp q]; exact hy)
theorem jm:∀ {xs:List Str} {its:List Value},aw (xs.map V.str) its→∃ l:List (Str×Tok),its=strValues l∧l.map (·.1)=xs
 | [],_,.nil=>⟨[],rfl,rfl⟩
 | x::r,_,.cons ⟨t,e⟩ tl=>by
  obtain⟨l,e1,e2⟩:=jm tl
  exact⟨(x,t)::l,by rw [e,e1]; rfl,by rw [← e2]; rfl⟩
section
variable{X:Cx}
inductive rMt_joinI(K:PySem.W.Frag)(x:V)(xs:List V)(H:Hp)(Q:VK):Prop where
 | mk:∀ (sep:Str) (p:Addr) (ys:List Str),x=.str sep→xs=[.ref p]→SqL K H p (ys.map V.str)→JoinOk sep ys=true→Q (.str (Str.join sep ys)) H→rMt_joinI K x xs H Q
theorem wk:MtR X "str.join" (fun x xs H Q=>rMt_joinI X.K x xs H Q):=by
 intro pins s σ H x xs v us Q I rx rs h
 obtain⟨sep,p,ys,rfl,rfl,hq,hok,q⟩:=h
 obtain⟨t,rfl⟩:=rx
 obtain⟨u,rfl,ru⟩:=ci rs
 cases ru
 obtain⟨its,r',pl,hz⟩:=I.list hq
 obtain⟨l,rfl,e2⟩:=jm r'
 refine SC.join pl.isList e2 hok fun t' k=>⟨.str (Str.join sep ys),H,I.tok k,⟨t',?_⟩,q⟩
 show Value.str (Txt.join sep ys) t'=_
 rw [show Txt.join sep ys=Str.join sep ys from StrLaws.glued_eq_join sep ys]
mutual
inductive eK(H:Hp):V→PyData→Prop where
 | non:eK H .non .none
 | bl (b:Bool):eK H (.bl b) (.bool b)
 | int (i:Int):eK H (.int i) (.int i)
 | str (x:Str):eK H (.str x) (.str x)
 | lst {a:Addr} {xs:List V} {ds:List PyData}:H a=some (.lst xs)→fO H xs ds→eK H (.ref a) (.list ds)
 | tup {a:Addr} {xs:List V} {ds:List PyData}:H a=some (.tup xs)→fO H xs ds→eK H (.ref a) (.tuple ds)
inductive fO(H:Hp):List V→List PyData→Prop where
 | nil:fO H [] []
 | cons {x:V} {xs:List V} {d:PyData} {ds:List PyData}:eK H x d→fO H xs ds→fO H (x::xs) (d::ds)
end
mutual
theorem eK.reads{P:Program}{w:World}{H:Hp}{h:Heap}(ok:HOk P w H h):∀ {x:V} {d:PyData},eK H x d→∀ {u:Value},az x u→∃ as,Reads h u d as
 | _,_,.non,u,r=>by cases r; exact⟨_,.none⟩
 | _,_,.bl b,u,r=>by cases r; exact⟨_,.bool b⟩
 | _,_,.int i,u,r=>by obtain⟨t,rfl⟩:=r; exact⟨_,.int i t⟩
 | _,_,.str x,u,r=>by obtain⟨t,rfl⟩:=r; exact⟨_,.str x t⟩
 | _,_,.lst (a:=a) e z,u,r=>by
  cases r
  obtain⟨_,its,n,rv,e1⟩:=ok a _ e
  obtain⟨as,q⟩:=fO.reads ok z rv
  exact⟨_,.list e1 rfl rfl (by simpa using q)⟩
 | _,_,.tup (a:=a) e z,u,r=>by
  cases r
  obtain⟨_,its,rv,o,e1,e2,n,e3⟩:=ok a _ e
  obtain⟨as,q⟩:=fO.reads ok z rv
  exact⟨_,.tuple e1 e2 e3 (by simpa using q)⟩
theorem fO.reads{P:Program}{w:World}{H:Hp}{h:Heap}(ok:HOk P w H h):∀ {xs:List V} {ds:List PyData},fO H xs ds→∀ {us:List Value},aw xs us→∃ as,ReadsAll h us ds as
 | _,_,.nil,_,.nil=>⟨_,.nil⟩
 | _,_,.cons a b,_,.cons r t=>by
  obtain⟨as,q1⟩:=eK.reads ok a r
  obtain⟨bs,q2⟩:=fO.reads ok b t
  exact⟨_,.cons q1 q2⟩
end
inductive rCall_reprDI(xs:List V)(H:Hp)(Q:VK):Prop where
 | mk:∀ (p:Addr) (d:PyData),xs=[.ref p]→eK H (.ref p) d→d.showable=true→d.hasDict=false→d.depth≤60→d.shown.length≤sizeLine→Q (.str d.shown) H→rCall_reprDI xs H Q
theorem oo{k:Nat}(hr:aW k X.A):cv X (.builtin "repr") (fun xs H Q=>rCall_reprDI xs H Q):=by
 intro pins s σ H xs us Q I r h
 obtain⟨p,d,rfl,hd,h1,h2,h3,h4,q⟩:=h
 obtain⟨u,rfl,rx⟩:=ci r
 cases rx
 obtain⟨as,rd⟩:=hd.reads I.hok (u:=.ref p) rfl
 have hu:=hr.units
 refine repr_of_reads' (h₀:=s.heap) rd h1 (fun z=>by rw [h2] at z; cases z) hr.gd (by omega) (fun _ _ e=>e) (fun h' u tk kk=>⟨.str d.shown,H,I.kept kk,⟨u,rfl⟩,q⟩) h4
inductive rCall_isiTI(K:PySem.W.Frag)(T:String)(xs:List V)(H:Hp)(Q:VK):Prop where
 | mk:∀ (x:V) (t:Value) (b:Bool),xs=[x,.ty T]→dW K H x t→PySem.W.kitOne K t (.type T)=some b→Q (.bl b) H→rCall_isiTI K T xs H Q
theorem jU{T:String}:cv X (.builtin "isinstance") (fun xs H Q=>rCall_isiTI X.K T xs H Q):=by
 intro pins s σ H xs us Q I r h
 obtain⟨x,t,b,rfl,ty,e,q⟩:=h
 obtain⟨u,u',rfl,rx,ry⟩:=jo r
 cases ry
 exact qF I rx ty e fun tk=>⟨.bl b,H,I.tok tk,rfl,q⟩
theorem n6{pins:List (Addr×Obj)}{σ:St}{H:Hp}{s:Shared}{A:Around}{E:Value→Shared→Prop}{Q:Value→Shared→Prop}{b:Bool}{x:V}{u t:Value}{tp:Addr}{cs:List Value}(I:Inv X pins σ H s)(rx:az x u)(ty:dW X.K H x t)
  (htp:∃ (dd:Option Addr) (n:Nat) (sl:Array (Option Value)),s.heap.get? tp=some ⟨.type "tuple",dd,.seq cs.toArray n,sl⟩) (e:PySem.W.kitAny X.K t cs=some b) (h:∀ tk,Q (.bool b) {s with toks:=tk}) :
  wpAny (model X.prog X.w) A (call (.builtin "isinstance") [u,.ref tp]) Q E s:=by
 obtain⟨dd,n,sl,htp⟩:=htp
 cases ty with
 | non=>cases (show u=Value.none from rx); exact PySem.W.kia_tup PySem.W.kitx_none I.kIn True.intro htp e (fun z=>nomatch z) h
 | bl y=>cases (show u=Value.bool y from rx); exact PySem.W.kia_tup PySem.W.kitx_bool I.kIn True.intro htp e (fun z=>nomatch z) h
 | int i=>obtain⟨t,q⟩:=(show ∃ t,u=Value.int i t from rx); cases q; exact PySem.W.kia_tup PySem.W.kitx_int I.kIn True.intro htp e (fun z=>nomatch z) h
 | str y=>obtain⟨t,q⟩:=(show ∃ t,u=Value.str y t from rx); cases q; exact PySem.W.kia_tup PySem.W.kitx_str I.kIn True.intro htp e (fun z=>nomatch z) h
 | flt y=>obtain⟨t,q⟩:=(show ∃ t,u=Value.float y t from rx); cases q; exact PySem.W.kia_tup PySem.W.kitx_float I.kIn True.intro htp e (fun z=>nomatch z) h
 | @lst a xs ea=>
  cases (show u=Value.ref a from rx)
  obtain⟨_,_,n,_,h1⟩:=(show aF X.prog X.w H s.heap a (.lst xs) from I.hok a _ ea)
  exact PySem.W.kia_tup PySem.W.kitx_list I.kIn ⟨_,h1,rfl⟩ htp e (fun z=>nomatch z) h
 | @frz a ob xs ea=>
  cases (show u=Value.ref a from rx)
  obtain⟨_,_,_,n,_,h1⟩:=(show aF X.prog X.w H s.heap a (.frz ob (.lst xs)) from I.hok a _ ea)
  exact PySem.W.kia_tup PySem.W.kitx_list I.kIn ⟨_,h1,rfl⟩ htp e (fun z=>nomatch z) h
 | @tup a xs ea=>
  cases (show u=Value.ref a from rx)
  obtain⟨_,_,_,p⟩:=(show aF X.prog X.w H s.heap a (.tup xs) from I.hok a _ ea)
  obtain⟨o,h1,h2,_⟩:=p
  exact PySem.W.kia_tup PySem.W.kitx_tuple I.kIn ⟨o,h1,h2⟩ htp e (fun z=>nomatch z) h
 | @dK a kvs ea=>
  cases (show u=Value.ref a from rx)
  obtain⟨_,_,vs,_,p⟩:=(show aF X.prog X.w H s.heap a (.dK kvs) from I.hok a _ ea)
  obtain⟨o,es,ep,h1,h2,_⟩:=p
  exact PySem.W.kia_tup PySem.W.kitx_dict I.kIn ⟨o,h1,h2.1⟩ htp e (fun z=>nomatch z) h
 | @dT a kvs ea=>
  cases (show u=Value.ref a from rx)
  obtain⟨_,_,xs,_,o,es,ep,h1,h2,_⟩:=(show aF X.prog X.w H s.heap a (.dT kvs) from I.hok a _ ea)
  exact PySem.W.kia_tup PySem.W.kitx_dict I.kIn ⟨o,h1,h2.1⟩ htp e (fun z=>nomatch z) h
 | @ins a C dx fs ea cl ha hn htk hm=>
  cases (show u=Value.ref a from rx)
  obtain⟨mA,O,_⟩:=gj I.hok ea
  obtain⟨od,J,_⟩:=O.look
  exact PySem.W.kia_tup (PySem.W.kitx_own (cl.get _) cl.hd ha hn htk hm) I.kIn J htp e (fun z=>nomatch z) h
inductive rCall_isi2I(K:PySem.W.Frag)(T:String)(U:String)(xs:List V)(H:Hp)(Q:VK):Prop where
 | mk:∀ (x:V) (p:Addr) (t:Value) (b:Bool),xs=[x,.ref p]→H p=some (.tup [.ty T,.ty U])→dW K H x t→PySem.W.kitAny K t [.type T,.type U]=some b→Q (.bl b) H→rCall_isi2I K T U xs H Q
theorem qX{T U:String}:cv X (.builtin "isinstance") (fun xs H Q=>rCall_isi2I X.K T U xs H Q):=by
 intro pins s σ H xs us Q I r h
 obtain⟨x,p,t,b,rfl,hp,ty,e,q⟩:=h
 obtain⟨u,u',rfl,rx,ry⟩:=jo r
 cases ry
 obtain⟨_,its,rv,o,h1,h2,n,h3⟩:=I.hok p _ hp
 obtain⟨a,b',rfl,ra,rb⟩:=jo rv
 cases ra
 cases rb
 refine n6 (cs:=[.type T,.type U]) I rx ty ?_ e fun tk=>⟨.bl b,H,I.tok tk,rfl,q⟩
 obtain⟨oc,od,odt,osl⟩:=o
 cases h2
 cases h3
 exact⟨od,n,osl,h1⟩
end
section
variable{X:Cx}
inductive rCatTTI(K:PySem.W.Frag)(x:V)(y:V)(H:Hp)(Q:VK):Prop where
 | mk:∀ a b xs ys,x=.ref a→y=.ref b→SqT K H a xs→SqT K H b ys→xs.length+ys.length≤sizeLine→((xs=[]→Q (.ref b) H))→((xs≠[]→ys=[]→Q (.ref a) H))→((xs≠[]→ys≠[]→∀ p,H p=none→Q (.ref p) (upd H p (.tup (xs++ys)))))→rCatTTI K x y H Q
def nz(K:PySem.W.Frag):R2:=fun x y H Q=>rCatTTI K x y H Q
theorem tK:OpR X (binaryOp .Add) (nz X.K):=by
 intro pins s σ H x y v u Q I rx ry h
 obtain⟨a,b,xs,ys,rfl,rfl,ha,hb,hz,q0,q1,q2⟩:=h
 by_cases hx:xs=[]
 ·cases rx
  cases ry
  obtain⟨its,r1,p1,_⟩:=I.tuple ha
  obtain⟨its2,r2,p2,_⟩:=I.tuple hb
  obtain⟨⟨cls,dd,data,sl⟩,ho,hc,n,hd⟩:=id p1
  obtain⟨⟨cls2,dd2,data2,sl2⟩,ho2,hc2,n2,hd2⟩:=id p2
  simp only at hc hd hc2 hd2
  subst hc hd hc2 hd2
  have e:its=[]:=r1.nil_iff.mpr hx
  exact concat_meets ⟨_,ho,rfl⟩ ⟨_,ho2,rfl⟩ noFill_tuple_add seq_tuple_add PySem.F.slot_tuple_add PySem.F.entry_tuple_add (PySem.F.args_tuple_add_2 _ _)
   (tuple_addW0 a b its.toArray its2.toArray n n2 dd dd2 sl sl2 (by simp [e])) ⟨ho,ho2,⟨.ref b,H,I,rfl,q0 hx⟩⟩
 ·exact vK pins s σ H _ _ v u Q I rx ry ⟨a,b,xs,ys,rfl,rfl,ha,hb,hx,hz,q1 hx,q2 hx⟩
theorem i7:bootBuiltins "len"=some (.builtin "len"):=by decide +kernel
theorem yP:bootBuiltins "max"=some (.builtin "max"):=by decide +kernel
theorem yR:bootBuiltins "abs"=some (.builtin "abs"):=by decide +kernel
theorem q8:bootBuiltins "divmod"=some (.builtin "divmod"):=by decide +kernel
theorem yQ:bootBuiltins "all"=some (.builtin "all"):=by decide +kernel
theorem wO:bootBuiltins "repr"=some (.builtin "repr"):=by decide +kernel
theorem dj:bootBuiltins "isinstance"=some (.builtin "isinstance"):=by decide +kernel
theorem pI:bootBuiltins "list"=some (.type "list"):=by decide +kernel
theorem mR:bootBuiltins "tuple"=some (.type "tuple"):=by decide +kernel
theorem uP:bootBuiltins "int"=some (.type "int"):=by decide +kernel
theorem uO:bootBuiltins "str"=some (.type "str"):=by decide +kernel
theorem yO:bootBuiltins "set"=some (.type "set"):=by decide +kernel
theorem pJ:bootBuiltins "dict"=some (.type "dict"):=by decide +kernel
def Def(P:Program)(w:World)(K:PySem.W.Frag)(mg:Str→Option Value)(base:Heap)(x:Str)(k:Nat)(ps:List Str)(sp:Sp):Prop:=
 ∃ f fd,mg x=some (.ref f)∧PySem.W.keepIn K (.ref f)=true∧aU K fd ps []∧aZ P w K mg base CX0 k f fd ps sp
theorem ya{x:Str}{k:Nat}{ps:List Str}{sp:Sp}{p pos:Pos}{e:Expr}{es:List Expr}{t:TA}(D:Def X.prog X.w X.K X.mg X.base x k ps sp)(hr:aW k X.A)(hg:Gl X x)(ha:PA X (e::es) t)
  (hdb:(x==("__debug__":Str))=false:=by decide) (he:starEach (e::es) X.env=(false,eval e X.env)::starEach es X.env:=by rfl) (hpl:(backTo pos (starEach es X.env)).any (·.1)=false:=by rfl) :
  PE X (.Call (.Name x p) (e::es) [] pos) (iw sp [] E0 t):=by
 obtain⟨f,fd,hm,hk,hb,F⟩:=D
 exact vG F hr hg hm hk hb .nil pd ha hdb he hpl
structure am(K:PySem.W.Frag)(mg:Str→Option Value)(x:Str)(st:Stmt)(ps:List Str):Prop where
 ex:∃ f fd,Fun K x x st f fd∧mg x=some (.ref f)∧aU K fd ps []
theorem am.mk'{P:Program}{w:World}{K:PySem.W.Frag}{mg:Str→Option Value}{base:Heap}{x:Str}{st:Stmt}{N ps:List Str}{k:Nat}{sp:Sp}(F:am K mg x st ps)(S:ak N ps (af st))(len:∀ vs H Q E,sp vs H Q E→vs.length=ps.length)
  (hbody:∀ (f:Addr) (cdv:Value) (A:Around) (outer:List Env) (s:Shared) (H:Hp) (vs:List V) (Q:VK) (E:XK),aW k (A.deeper (envOfC x (af st) s.heap.objs.size f cdv))→sp vs H Q E→
   ∃ t,PSs (mJ CX0 P w K mg base N x (af st) f cdv A outer s H E).nox (bK st) t∧t {nx:=fun _ H'=>Q .non H',rt:=Q} (f7 N vs) H):Def P w K mg base x (k+1) ps sp:=by
 obtain⟨f,fd,Fn,hm,hb⟩:=F.ex
 exact⟨f,fd,hm,Fn.kp,hb,Fn.ok S len (hbody f)⟩
theorem zF{X:Cx}:∀ v s,¬ (X.nox).xe v s:=fun _ _ z=>z
def ax(p:Addr)(H H':Hp):Prop:=∀ b o,b≠p→H b=some o→H' b=some o
theorem ax.trans{p:Addr}{H H1 H2:Hp}(a:ax p H H1)(b:ax p H1 H2):ax p H H2:=fun c o n h=>b c o n (a c o n h)
theorem ax.refl(p:Addr)(H:Hp):ax p H H:=fun _ _ _ h=>h
theorem ax.upd(p:Addr)(H:Hp)(o:HO):ax p H (upd H p o):=fun b u n h=>by rw [ad n]; exact h
theorem ac{H:Hp}{p:Addr}(h:H p=none)(o:HO):Same H (upd H p o):=fun b u e=>by rw [ad (ae e h)]; exact e
theorem Same.x{p:Addr}{H H':Hp}(a:Same H H'):ax p H H':=fun b o _ h=>a b o h
end
theorem ax.same{p:Addr}{H H1 H2:Hp}(a:ax p H H1)(b:Same H1 H2):ax p H H2:=fun c o n h=>b c o (a c o n h)
theorem ax.free{p:Addr}{H H':Hp}(e:ax p H H'){l:Addr}(n:l≠p)(h:H' l=none):H l=none:=by
 cases q:H l with
 | none=>rfl
 | some o=>rw [e l o n q] at h; cases h
theorem bL{α:Type}{xs:List α}{i:Int}{x:α}(h0:0≤i)(h:xs[i.toNat]? = some x):atI xs i=some x:=by
 have:=pK h
 rwa [Int.toNat_of_nonneg h0] at this
theorem zf{n:Nat}{i:Int}(h0:0≤i)(h1:i<n):seqIndex? i n=some i.toNat:=by
 unfold seqIndex?
 simp [show ¬ (i<0) by omega,h0,h1]
structure oC(n:Nat)(N' N:List Str)(osc scope:Scope):Prop where
 kind:scope.kind=.function
 names:∀ x∈scope.names,x.2=.local→scope.names.lookup x.1=some .local
 cell:∀ x∈scope.names,x.2≠.cell
 free:∀ x∈scope.names,x.2=.free→osc.names.lookup x.1=some .cell∨osc.names.lookup x.1=some .free
 nd:N'.Nodup
 len:N'.length=n+N.length
 look:ur n N' N scope.names=true
theorem oC.at{X:Cx}{n:Nat}{N':List Str}{scope:Scope}(h:oC n N' X.N X.env.scope scope):aM n N' X scope:=⟨h.kind,h.names,h.cell,h.free,h.nd,h.len,h.look⟩
end L2
set_option maxHeartbeats 4000000
namespace L2
open PySem PySem.Spec PyProof.Rows
mutual
inductive RdV(R:Addr→Prop)(H:Hp):V→PyData→Prop where
 | non:RdV R H .non .none
 | bl (b:Bool):RdV R H (.bl b) (.bool b)
 | int (i:Int):RdV R H (.int i) (.int i)
 | str (x:Str):RdV R H (.str x) (.str x)
 | lst {a:Addr} {xs:List V} {ds:List PyData}:R a→H a=some (.lst xs)→RdA R H xs ds→RdV R H (.ref a) (.list ds)
 | tup {a:Addr} {xs:List V} {ds:List PyData}:R a→H a=some (.tup xs)→RdA R H xs ds→RdV R H (.ref a) (.tuple ds)
inductive RdA(R:Addr→Prop)(H:Hp):List V→List PyData→Prop where
 | nil:RdA R H [] []
 | cons {x:V} {xs:List V} {d:PyData} {ds:List PyData}:RdV R H x d→RdA R H xs ds→RdA R H (x::xs) (d::ds)
end
mutual
theorem RdV.mono{R R':Addr→Prop}{H H':Hp}(hR:∀ a,R a→R' a)(hH:∀ a o,R a→H a=some o→H' a=some o):∀ {x:V} {d:PyData},RdV R H x d→RdV R' H' x d
 | _,_,.non=>.non
 | _,_,.bl b=>.bl b
 | _,_,.int i=>.int i
 | _,_,.str x=>.str x
 | _,_,.lst r e z=>.lst (hR _ r) (hH _ _ r e) (RdA.mono hR hH z)
 | _,_,.tup r e z=>.tup (hR _ r) (hH _ _ r e) (RdA.mono hR hH z)
theorem RdA.mono{R R':Addr→Prop}{H H':Hp}(hR:∀ a,R a→R' a)(hH:∀ a o,R a→H a=some o→H' a=some o):∀ {xs:List V} {ds:List PyData},RdA R H xs ds→RdA R' H' xs ds
 | _,_,.nil=>.nil
 | _,_,.cons a b=>.cons (RdV.mono hR hH a) (RdA.mono hR hH b)
end
mutual
theorem RdV.toV{R:Addr→Prop}{H:Hp}:∀ {x:V} {d:PyData},RdV R H x d→eK H x d
 | _,_,.non=>.non
 | _,_,.bl b=>.bl b
 | _,_,.int i=>.int i
 | _,_,.str x=>.str x
 | _,_,.lst r e z=>.lst e (RdA.toA z)
 | _,_,.tup r e z=>.tup e (RdA.toA z)
theorem RdA.toA{R:Addr→Prop}{H:Hp}:∀ {xs:List V} {ds:List PyData},RdA R H xs ds→fO H xs ds
 | _,_,.nil=>.nil
 | _,_,.cons a b=>.cons (RdV.toV a) (RdA.toA b)
end
mutual
def cC:PyData→Bool
 | .list _=>false
 | .tuple ds=>bp ds
 | _=>true
def bp:List PyData→Bool
 | []=>true
 | d::r=>cC d&&bp r
end
mutual
theorem RdV.monoT{R R':Addr→Prop}{H H':Hp}(hR:∀ a,R a→R' a)(hH:∀ a xs,H a=some (.tup xs)→H' a=some (.tup xs)):∀ {x:V} {d:PyData},cC d=true→RdV R H x d→RdV R' H' x d
 | _,_,_,.non=>.non
 | _,_,_,.bl b=>.bl b
 | _,_,_,.int i=>.int i
 | _,_,_,.str x=>.str x
 | _,_,h,.lst r e z=>by simp [cC] at h
 | _,_,h,.tup r e z=>.tup (hR _ r) (hH _ _ e) (RdA.monoT hR hH (by simpa [cC] using h) z)
theorem RdA.monoT{R R':Addr→Prop}{H H':Hp}(hR:∀ a,R a→R' a)(hH:∀ a xs,H a=some (.tup xs)→H' a=some (.tup xs)):∀ {xs:List V} {ds:List PyData},bp ds=true→RdA R H xs ds→RdA R' H' xs ds
 | _,_,_,.nil=>.nil
 | _,_,h,.cons a b=>by
  simp only [bp,Bool.and_eq_true] at h
  exact .cons (RdV.monoT hR hH h.1 a) (RdA.monoT hR hH h.2 b)
end
section
variable{R:Addr→Prop}{H H':Hp}{v:V}{xs ys:List V}{ds es:List PyData}{d:PyData}
theorem RdV.same(hs:Same H H')(h:RdV R H v d):RdV R H' v d:=h.mono (fun _ r=>r) fun a o _ e=>hs a o e
theorem RdA.same(hs:Same H H')(h:RdA R H xs ds):RdA R H' xs ds:=h.mono (fun _ r=>r) fun a o _ e=>hs a o e
theorem RdV.list_inv(h:RdV R H v (.list ds)):∃ a xs,v=.ref a∧R a∧H a=some (.lst xs)∧RdA R H xs ds:=by cases h with | lst r e z=>exact⟨_,_,rfl,r,e,z⟩
theorem RdV.tuple_inv(h:RdV R H v (.tuple ds)):∃ a xs,v=.ref a∧R a∧H a=some (.tup xs)∧RdA R H xs ds:=by cases h with | tup r e z=>exact⟨_,_,rfl,r,e,z⟩
theorem RdV.str_inv{x:Str}(h:RdV R H v (.str x)):v=.str x:=by cases h; rfl
theorem RdA.length:∀ {xs:List V} {ds:List PyData},RdA R H xs ds→xs.length=ds.length
 | _,_,.nil=>rfl
 | _,_,.cons _ t=>by rw [List.length_cons,List.length_cons,RdA.length t]
theorem RdA.getV:∀ {xs:List V} {ds:List PyData} {i:Nat} {x:V},RdA R H xs ds→xs[i]? = some x→∃ d,ds[i]? = some d∧RdV R H x d
 | _,_,_,_,.nil,h=>by simp at h
 | _,_,0,_,.cons a t,h=>by simp at h; subst h; exact⟨_,rfl,a⟩
 | _,_,i+1,_,.cons a t,h=>by simpa using RdA.getV (i:=i) t (by simpa using h)
theorem RdA.append:∀ {xs ys:List V} {ds es:List PyData},RdA R H xs ds→RdA R H ys es→RdA R H (xs++ys) (ds++es)
 | _,_,_,_,.nil,h=>h
 | _,_,_,_,.cons a t,h=>.cons a (RdA.append t h)
theorem RdA.snoc(h:RdA R H xs ds)(a:RdV R H v d):RdA R H (xs++[v]) (ds++[d]):=h.append (.cons a .nil)
theorem RdA.strs:∀ ws:List Str,RdA R H (ws.map V.str) (ws.map PyData.str)
 | []=>.nil
 | x::r=>.cons (.str x) (RdA.strs r)
theorem RdA.strs_inv:∀ {ws:List Str} {xs:List V},RdA R H xs (ws.map PyData.str)→xs=ws.map V.str
 | [],_,.nil=>rfl
 | _::_,_,.cons a t=>by rw [RdV.str_inv a,RdA.strs_inv t]; rfl
theorem RdA.two(h:RdA R H xs [d,e]):∃ x y,xs=[x,y]∧RdV R H x d∧RdV R H y e:=by
 cases h with | cons a t=>cases t with | cons b t=>cases t; exact⟨_,_,rfl,a,b⟩
theorem RdA.three{f:PyData}(h:RdA R H xs [d,e,f]):∃ x y z,xs=[x,y,z]∧RdV R H x d∧RdV R H y e∧RdV R H z f:=by
 cases h with | cons a t=>cases t with | cons b t=>cases t with | cons c t=>cases t; exact⟨_,_,_,rfl,a,b,c⟩
end
inductive eU:List Expr→List Str→Prop where
 | nil:eU [] []
 | cons {x:Str} {j:Nat} {pos:Pos} {es:List Expr} {ws:List Str}:eU es ws→eU (.Constant (.str x) j pos::es) (x::ws)
def xa(ws:List Str):TA:=fun _ H Q=>Q (ws.map V.str) H
theorem vH{X:Cx}{es:List Expr}{ws:List Str}(h:eU es ws):PA X es (xa ws):=by
 induction h with
 | nil=>exact di
 | cons h ih=>
  rename_i x j pos es ws
  intro pos' pins s σ H Q I hq
  exact cV (te:=tC (.str x)) (t:=xa ws) kC ih rfl pos' pins s σ H Q I hq
section
variable{X:Cx}
theorem fV{sc:Scope}{x:Str}(h:sc.names.lookup x=some .local):Vis sc x:=.inl h
theorem Ak{sc:Scope}{x:Str}(h:sc.names.lookup x=some .cell):Vis sc x:=.inr (.inl h)
theorem Aj{scope:Scope}{env:Env}{x:Str}(h:scope.names.lookup x=some .free):Vis (relabel scope env) x:=by
 have e:(relabel scope env).names.lookup x=_:=bx
 rw [h] at e
 simp only [Option.map_some] at e
 split at e
 ·exact .inr (.inl e)
 ·exact .inr (.inr e)
theorem Ai{scope:Scope}{env:Env}{x:Str}(h:scope.names.lookup x=some .local):Vis (relabel scope env) x:=.inl (lookup_relabel_local h)
theorem AI{scope:Scope}{env:Env}{x:Str}(h:scope.names.lookup x=some .local):Loc (relabel scope env) x:=.inl (lookup_relabel_local h)
theorem glO{scope:Scope}{env:Env}{x:Str}(h:scope.names.lookup x=some .globalImplicit):(relabel scope env).names.lookup x=some .globalImplicit:=by
 have e:(relabel scope env).names.lookup x=_:=bx
 rw [h] at e
 exact e
theorem pq(i:Nat){x:Str}{pos:Pos}(hv:Vis X.env.scope x)(hd:(x==("__debug__":Str))=false)(hcd:(x==("__classdict__":Str))=false)(hN:X.N[i]? = some x:=by rfl):PE X (.Name x pos) (cT i):=tj hN hv hd hcd
end
section
variable{P:Program}{w:World}{A:Around}{E:Value→Shared→Prop}
theorem i3{it l:Addr}{its:Array Value}(ne:l≠it)(n:Nat):∀ (i:Nat) (s:Shared) (Q:List Value→Shared→Prop),s.heap.IsListIter it l i→s.heap.IsList l its→i+n≤its.size→
  (∀ h',h'.IsListIter it l (i+n)→Heap.SameBut it s.heap h'→Q ((its.toList.drop i).take n) {s with heap:=h'})→wpAny (model P w) A (draw (.ref it) n) Q E s:=by
 induction n with
 | zero=>
  intro i s Q a _ _ q
  have q0:=q s.heap a (Heap.SameBut.refl ..)
  rw [List.take_zero] at q0
  exact wpAny_pure q0
 | succ n ih=>
  intro i s Q a b le q
  have lt:i<its.size:=by omega
  refine wpAny_bind (m:=pyNext (.ref it)) (wpAny_pyNext_list_item a b (x:=its[i]) (by simp [lt]) fun h1 a1 s1=>?_)
  refine wpAny_bind (wpAny_holding (ih (i+1) _ _ a1 (b.extBut s1.extBut ne) (by omega) fun h2 a2 s2=>?_))
  refine wpAny_pure ?_
  have q2:=q h2 (by rw [Nat.add_comm n 1,← Nat.add_assoc]; exact a2) (s1.trans s2)
  have e:its.toList.drop i=its[i]::its.toList.drop (i+1):=by simp [List.drop_eq_getElem_cons,lt]
  rwa [e,List.take_succ_cons] at q2
theorem mU{s:Shared}{l:Addr}{its:Array Value}{ts:List (Bool×(Value→Sem Unit))}{Q:Unit→Shared→Prop}(hh:A.handled=none)(hl:s.heap.IsList l its)(hn:ts.length=its.size)(hs:ts.findIdx? (·.1)=none)
  (q:∀ h',Heap.ExtBut s.heap.objs.size s.heap h'→wpAny (model P w) A (assignInOrder (ts.map (·.2)) its.toList) Q E {s with heap:=h'}):wpAny (model P w) A (unpack (.ref l) ts) Q E s:=by
 have ne:l≠s.heap.objs.size:=by
  obtain⟨o,e,_⟩:=hl
  exact Nat.ne_of_lt (Heap.lt_size e)
 unfold unpack
 rw [hs,hn]
 refine wpAny_bind (wpAny_holding ?_)
 unfold unpackItems notIterableAtAll
 refine wpAny_bind (wpAny_bind (wpAny_specialOf hl.typeIs slot_list_iter.lookup (wpAny_pure ?_)))
 simp only [Bool.false_eq_true,if_false]
 refine wpAny_bind (wpAny_holding (wpAny_pyIter_list hl ?_))
 refine wpAny_bind (wpAny_holding (i3 ne its.size 0 _ _ ⟨_,Heap.get?_push_size _ rfl,rfl,rfl⟩ (hl.push _) (by omega) fun h1 a1 s1=>?_))
 have all:(its.toList.drop 0).take its.size=its.toList:=by simp [List.take_of_length_le]
 rw [all,if_neg (by simp)]
 refine wpAny_bind (wpAny_holding (wpAny_pyNext_list_end hh a1 ((hl.push _).extBut s1.extBut ne) (by simp) fun h2 e2=>?_))
 simp only [Option.isSome_none,Bool.false_eq_true,if_false]
 exact wpAny_pure (q h2 fun b o nb e=>e2 b o nb (s1.extBut b o nb (Heap.get?_push_of_some _ e)))
end
section
variable{X:Cx}{pos:Pos}
inductive gSeqI(K:PySem.W.Frag)(n:Nat)(t:TGs)(v:V)(σ:St)(H:Hp)(Q:(St→Hp→Prop)):Prop where
 | mk:∀ a xs,v=.ref a→((SqL K H a xs∨SqT K H a xs))→xs.length=n→t xs σ H Q→gSeqI K n t v σ H Q
def AS(K:PySem.W.Frag)(n:Nat)(t:TGs):TG:=fun v σ H Q=>gSeqI K n t v σ H Q
theorem xX{es:List Expr}{k:Nat}{t:TGs}{n:Nat}(hc:X.calm=true)(h:PGs X es t)(hn:(assignEach es X.env).length=n:=by rfl)(hst:(assignEach es X.env).findIdx? (·.1)=none:=by rfl):PG X (.Tuple es k pos) (AS X.K n t):=by
 intro pins s σ H v u Q I r hw
 obtain⟨a,xs,rfl,hq | hq,hl,hw⟩:=hw
 ·cases r
  obtain⟨its,rv,pl,hz⟩:=I.list hq
  rw [assign_Tuple]
  refine wpAny_bind (wpAny_standAt (mU (I.ok.hd hc) pl.isList (by simp [hn,← hl,rv.length]) hst fun h' hx=>?_))
  have I1:Inv X pins σ H {s with heap:=h'}:=I.kept (t':=s.toks) fun b o e=>hx b o (Nat.ne_of_lt (Heap.lt_size e)) e
  exact h pins _ σ H xs _ Q I1 (by simpa using rv) hw
 ·exact nE hc h hn hst pins s σ H _ u Q I r ⟨a,xs,rfl,hq,hl,hw⟩
end
structure cB(X:Cx)(pins:List (Addr×Obj))(H:Hp)(b:Addr):Prop where
 un:H b=none
 new:b∈X.ex∨X.s₀.heap.get? b=none
 loc:b≠X.env.locals
 cel:∀ x c,X.env.cells.lookup x=some c→c≠b
 pin:∀ p∈X.pn++pins,p.1≠b
section
variable{X:Cx}{pins:List (Addr×Obj)}{σ:List (Option V)}{H:Hp}{s:Shared}{h':Heap}
theorem Inv.fly{t':Nat}{S:List Addr}(I:Inv X pins σ H s)(hS:∀ b∈S,cB X pins H b)(kp:∀ b o,s.heap.get? b=some o→b∉S→b∉frs X.stack→h'.get? b=some o)
  (sl:∀ b o,s.heap.get? b=some o→b∈frs X.stack→∃ w,h'.get? b=some {o with slots:=w}):Inv X pins σ H {s with heap:=h',toks:=t'}:=by
 have nS:∀ b u,H b=some u→b∉S:=fun b u e z=>by rw [(hS b z).un] at e; cases e
 have nF:∀ b u,H b=some u→b∉frs X.stack:=fun b u e z=>by rw [I.stkFree b z] at e; cases e
 have neL:∀ b o,X.s₀.heap.get? b=some o→b≠X.env.locals:=fun b o e=>Nat.ne_of_lt (Nat.lt_of_lt_of_le (Heap.lt_size e) I.ok.above)
 have neC:∀ b o,X.s₀.heap.get? b=some o→b∉X.ex→b∉S:=fun b o e hx hb=>by
  rcases(hS b hb).new with z | z
  ·exact hx z
  ·rw [z] at e; cases e
 have stkL:∀ b,b∈frs X.stack→b≠X.env.locals→b∈X.fs:=fun b hb n=>(List.mem_cons.mp (I.stkSub b hb)).elim (fun z=>absurd z n) id
 have any:∀ b o,s.heap.get? b=some o→b∉S→∃ w,h'.get? b=some {o with slots:=w}:=fun b o e n=>by
  by_cases hb:b∈frs X.stack
  ·exact sl b o e hb
  ·exact⟨o.slots,kp b o e n hb⟩
 have cellK:∀ x c,X.env.cells.lookup x=some c→∀ v,s.heap.IsCell c v→h'.IsCell c v:=fun x c e v ⟨o,ho,hd⟩=>by
  obtain⟨w,q⟩:=any c o ho fun z=>(hS c z).cel x c e rfl
  exact⟨_,q,hd⟩
 refine⟨I.ok,I.os,I.bare,⟨fun b o e n hb hx=>?_,fun b o e n hb hx=>?_,fun b o e n hx=>I.base.free b o e n hx,fun b o e hx=>?_,I.base.tups,I.base.frzs,I.base.tbls⟩,?_,fun x c e=>?_,I.free,I.freeC,fun p hp=>?_,fun b u e=>?_,I.len⟩
 ·exact kp b o (I.base.keep b o e n hb hx) (neC b o e hx) fun z=>hb (stkL b z (neL b o e))
 ·obtain⟨w,e1⟩:=I.base.slot b o e n hb hx
  obtain⟨w',e2⟩:=any b _ e1 (neC b o e hx)
  exact⟨w',e2⟩
 ·obtain⟨o',e1⟩:=I.base.there b o e hx
  obtain⟨w,e2⟩:=any b o' e1 (neC b o e hx)
  exact⟨_,e2⟩
 ·obtain⟨m,⟨o,es,ep,ho,r⟩,hl⟩:=I.loc
  obtain⟨w,q⟩:=any _ o ho fun z=>(hS _ z).loc rfl
  refine⟨m,⟨_,es,ep,q,r⟩,fun i x v e1 e2 e3=>?_⟩
  obtain⟨u,r,l⟩:=hl i x v e1 e2 e3
  refine⟨u,r,?_⟩
  rcases l with l | ⟨k,c,e,z⟩
  ·exact .inl l
  ·exact .inr ⟨k,c,e,cellK x c e _ z⟩
 ·obtain⟨v,z⟩:=I.cell x c e
  exact⟨v,cellK x c e v z⟩
 ·obtain⟨e,n,ne,nf,d⟩:=I.pin p hp
  exact⟨kp p.1 p.2 e (fun z=>(hS p.1 z).pin p hp rfl) fun z=>nf (stkL _ z ne),n,ne,nf,d⟩
 ·refine(I.hok b u e).stay (fun c v hc q=>?_) (fun _ q=>q) fun _ _ q=>q
  rcases hc with z | z
  ·subst z; exact kp _ v q (nS _ u e) (nF _ u e)
  ·exact kp c v q (nS c _ z) (nF c _ z)
end
inductive Exc(h:Heap)(a:Addr)(cls:Value):Option Value→List Addr→Prop where
 | made {oe:Obj} {vs:Array Value} {a0:Value}:h.get? a=some oe→oe.cls=cls→oe.data=.fields vs→vs[0]? = some a0→vs[1]? = some .none→Exc h a cls none [a]
 | ent {oe oT:Obj} {vs ts:Array Value} {a0 fl:Value} {T:Addr}:h.get? a=some oe→oe.cls=cls→oe.data=.fields vs→vs[0]? = some a0→vs[1]? = some (.ref T)→T≠a→h.get? T=some oT→oT.data=.fields ts→ts[3]? = some fl→Exc h a cls (some fl) [a,T]
def XEk(p:Option Value→Addr→Prop)(X:Cx)(E:XK):Value→Shared→Prop:=fun e s=>∃ (a L:Addr) (cls:Value) (σ:St) (H:Hp) (fl:Option Value) (S:List Addr) (env0:Env) (rest:List Env),e=.ref a∧X.stack=env0::rest∧env0.frame=some L∧X.env.frame=some L∧
 Inv X [] σ H s∧Exc s.heap a cls fl S∧p fl L∧(∀ b∈S,cB X [] H b)∧E cls none H
def XE:Cx→XK→Value→Shared→Prop:=XEk fun _ _=>True
def dU:Cx→XK→Value→Shared→Prop:=XEk fun fl L=>fl=some (rawInt L)
theorem XEk.imp{p q:Option Value→Addr→Prop}{X:Cx}{E:XK}{e:Value}{s:Shared}(h:XEk p X E e s)(k:∀ fl L,p fl L→q fl L):XEk q X E e s:=by
 obtain⟨a,L,cls,σ,H,fl,S,env0,rest,h1,h2,h3,h4,h5,h6,h7,h8⟩:=h
 exact⟨a,L,cls,σ,H,fl,S,env0,rest,h1,h2,h3,h4,h5,h6,k _ _ h7,h8⟩
theorem hV{e:Value}{env env':Env}(h:env.frame=env'.frame):noteFrame e env=noteFrame e env':=by
 unfold noteFrame PySem.frameOf
 rw [h]
section
variable{P:Program}{w:World}{H:Hp}{h:Heap}{a:Addr}{o:HO}
theorem aF.there(x:aF P w H h a o):∃ ob,h.get? a=some ob:=by
 induction o with
 | lst xs=>obtain⟨_,_,_,_,e⟩:=x; exact⟨_,e⟩
 | tup xs=>obtain⟨_,_,_,o,e,_⟩:=x; exact⟨_,e⟩
 | dK kvs=>obtain⟨_,_,_,_,o,_,_,e,_⟩:=x; exact⟨_,e⟩
 | dT kvs=>obtain⟨_,_,_,_,o,_,_,e,_⟩:=x; exact⟨_,e⟩
 | set S n=>obtain⟨o,_,_,_,e,_⟩:=x; exact⟨_,e⟩
 | ins C dx fs=>obtain⟨_,_,_,e,_⟩:=x; exact⟨_,e⟩
 | own y=>exact x
 | xd fs=>obtain⟨_,⟨o,_,_,e,_⟩,_⟩:=x; exact⟨_,e⟩
 | met f y=>exact⟨_,x⟩
 | rng lo hi=>obtain⟨_,_,_,e⟩:=x; exact⟨_,e⟩
 | frz o u ih=>exact⟨_,x.1⟩
 | tbl ps=>exact⟨_,x⟩
 | ext φ=>exact x.2.1
end
section
variable{X:Cx}{pins:List (Addr×Obj)}{σ:List (Option V)}{H:Hp}{s:Shared}{h':Heap}
theorem Inv.loose{b:Addr}(I:Inv X pins σ H s)(e:s.heap.get? b=none):cB X pins H b:=by
 have no:∀ {c:Addr} {o:Obj},s.heap.get? c=some o→c≠b:=fun q z=>by rw [z,e] at q; cases q
 refine⟨?_,?_,?_,fun x c hc=>?_,fun p hp=>no (I.pin p hp).1⟩
 ·cases q:H b with
  | none=>rfl
  | some o=>
   obtain⟨ob,z⟩:=aF.there (I.hok b o q)
   exact absurd rfl (no z)
 ·by_cases hx:b∈X.ex
  ·exact .inl hx
  ·refine .inr ?_
   cases q:X.s₀.heap.get? b with
   | none=>rfl
   | some o=>
    obtain⟨o',z⟩:=I.base.there b o q hx
    exact absurd rfl (no z)
 ·obtain⟨m,⟨o,_,_,ho,_⟩,_⟩:=I.loc
  exact(no ho).symm
 ·obtain⟨v,o,ho,_⟩:=I.cell x c hc
  exact no ho
theorem iN{a:Addr}{cls a0 fl:Value}{S:List Addr}{h':Heap}(I:Inv X [] σ H s)(hS:∀ b∈S,cB X [] H b)(ha:a∈S)
  (st:(PySem.W.hideAll s.heap (S++frs X.stack)).StaysIn h') (tr:h'.TracedAtW (PySem.W.hideAll s.heap (S++frs X.stack)) a cls a0 fl) (up:∀ b o,s.heap.get? b=some o→(∀ vs,o.data≠.fields vs)→∃ sl,h'.get? b=some {o with slots:=sl}):∃ S',Inv X [] σ H {s with heap:=h'}∧Exc h' a cls (some fl) S'∧∀ b∈S',cB X [] H b:=by
 have sl:∀ b o,s.heap.get? b=some o→b∈frs X.stack→∃ w,h'.get? b=some {o with slots:=w}:=fun b o e hb=>by
  obtain⟨_,o',e',nf⟩:=I.stack.mem hb
  rw [e] at e'; cases e'
  exact up b o e nf
 have kp:∀ b o,s.heap.get? b=some o→b∉S→b∉frs X.stack→h'.get? b=some o:=fun b o e n1 n2=>st b o (PySem.W.hideAll_get _ e fun z=>(List.mem_append.mp z).elim n1 n2)
 have I':Inv X [] σ H {s with heap:=h'}:=I.fly (t':=s.toks) hS kp sl
 obtain⟨oe,vs,T,oT,ts,he,⟨hc,h0⟩,hd,h1,hnT,hTe,hT,hdT,h3⟩:=tr
 refine⟨[a,T],I',.ent he hc hd h0 h1 hTe hT hdT h3,fun b hb=>?_⟩
 rcases List.mem_cons.mp hb with rfl | hb
 ·exact hS _ ha
 ·rw [List.mem_singleton.mp hb]
  by_cases h1:T∈S
  ·exact hS _ h1
  ·cases q:s.heap.get? T with
   | none=>exact I.loose q
   | some o=>
    by_cases h2:T∈frs X.stack
    ·obtain⟨_,o',e',nf⟩:=I.stack.mem h2
     rw [q] at e'; cases e'
     obtain⟨w,z⟩:=sl T o q h2
     rw [hT] at z; cases z
     exact absurd hdT (nf ts)
    ·rw [PySem.W.hideAll_get _ q fun z=>(List.mem_append.mp z).elim h1 h2] at hnT; cases hnT
theorem XE.note{E:XK}{e:Value}{EE:Value→Shared→Prop}(h:XE X E e s):wpAny (model X.prog X.w) X.A (noteFrame e X.env) (fun _ s'=>dU X E e s') EE s:=by
 obtain⟨a,L,cls,σ,H,fl,S,env0,rest,rfl,hs,hf0,hf,I,ex,hp,hS,hE⟩:=h
 rw [hV (hf.trans hf0.symm)]
 have hfr:X.A.frames=some (env0::rest):=by rw [I.ok.frames,hs]
 have hin:∀ env∈X.stack,∀ b,env.frame=some b→b∈S++frs X.stack:=fun env he b hb=>List.mem_append_right _ (List.mem_filterMap.mpr ⟨env,he,hb⟩)
 have hl:s.heap.FunFrames (PySem.W.hideAll s.heap (S++frs X.stack)) (env0::rest):=by rw [← hs]; exact PySem.W.funFrames_hide I.stack hin
 have hkb:(PySem.W.hideAll s.heap (S++frs X.stack)).StaysIn s.heap:=fun b o q=>PySem.W.of_hideAll _ q
 have fin:∀ {h':Heap} {a0:Value},a∈S→Heap.NotedW (PySem.W.hideAll s.heap (S++frs X.stack)) (env0::rest) a cls a0 (rawInt L) s.heap h'→dU X E (.ref a) {s with heap:=h'}:=fun {h' a0} ha hN=>by
  obtain⟨st,_,tr,up⟩:=hN
  obtain⟨S',I',ex',hS'⟩:=iN I hS ha st tr up
  exact⟨a,L,cls,σ,H,_,S',env0,rest,rfl,hs,hf0,hf,I',ex',rfl,hS',hE⟩
 cases ex with
 | made he hc hd h0 h1=>
  subst hc
  unfold noteFrame
  simp only [hf0]
  refine wpAny_bind (wpAny_field he hd h1 ?_)
  rw [if_neg (by decide)]
  refine wpAny_entryW hfr hl hf0 he hkb (PySem.W.hideAll_none _ (by simp)) hd (Array.getElem?_eq_some_iff.mp h1).1 h0 fun h' hN=>fin (by simp) hN
 | @ent oe oT vs ts a0 fl T he hc hd h0 h1 hTa hT hdT h3=>
  by_cases hb:(fl==rawInt L)=true
  ·obtain rfl:=eq_of_beq hb
   exact wpAny_noteFrame_againW (base:=PySem.W.hideAll s.heap [T]) hf0 ⟨oe,vs,T,oT,ts,he,⟨hc,h0⟩,hd,h1,PySem.W.hideAll_none _ (by simp),hTa,hT,hdT,h3⟩ ⟨a,L,cls,σ,H,_,_,env0,rest,rfl,hs,hf0,hf,I,.ent he hc hd h0 h1 hTa hT hdT h3,rfl,hS,hE⟩
  ·have h3s:3<ts.size:=(Array.getElem?_eq_some_iff.mp h3).1
   unfold noteFrame
   simp only [hf0]
   refine wpAny_bind (wpAny_field he hd h1 ?_)
   rw [if_pos (show (Value.ref T != Value.none)=true from by simp)]
   refine wpAny_bind (wpAny_field hT hdT h3 ?_)
   rw [if_neg hb]
   refine wpAny_bind (wpAny_setField hT hdT h3s ?_)
   have other:∀ b,b≠T→(s.heap.update T (Obj.mapFields (·.setIfInBounds 3 Value.none))).get? b=s.heap.get? b:=fun b n=>Heap.get?_update_other _ _ (Ne.symm n)
   have nT:∀ b∈frs X.stack,b≠T:=fun b hb z=>by
    obtain⟨_,o',e',nf⟩:=I.stack.mem hb
    rw [z,hT] at e'; cases e'
    exact nf ts hdT
   have I1:=I.fly (t':=s.toks) (h':=s.heap.update T (Obj.mapFields (·.setIfInBounds 3 Value.none))) hS (fun b o q n _=>by rw [other b (fun z=>n (by simp [z]))]; exact q) fun b o q hb=>⟨o.slots,by rw [other b (nT b hb)]; exact q⟩
   generalize hh1:s.heap.update T (Obj.mapFields (·.setIfInBounds 3 Value.none))=h1' at other I1 ⊢
   have he1:h1'.get? a=some oe:=(other a (Ne.symm hTa)).trans he
   have hin':∀ env∈X.stack,∀ b,env.frame=some b→b∈[a,T]++frs X.stack:=fun env he b hb=>List.mem_append_right _ (List.mem_filterMap.mpr ⟨env,he,hb⟩)
   have hl1:h1'.FunFrames (PySem.W.hideAll h1' ([a,T]++frs X.stack)) (env0::rest):=by rw [← hs]; exact PySem.W.funFrames_hide I1.stack hin'
   subst hc
   refine wpAny_entryW (s:={s with heap:=h1'}) hfr hl1 hf0 he1 (fun b o q=>PySem.W.of_hideAll _ q) (PySem.W.hideAll_none _ (by simp)) hd (Array.getElem?_eq_some_iff.mp h1).1 h0 fun h' hN=>?_
   obtain⟨st,_,tr,up⟩:=hN
   obtain⟨S',I',ex',hS'⟩:=iN I1 hS (by simp) st tr up
   exact⟨a,L,oe.cls,σ,H,_,S',env0,rest,rfl,hs,hf0,hf,I',ex',rfl,hS',hE⟩
end
section
variable{X:Cx}{E:XK}{e:Value}{s:Shared}{EE:Value→Shared→Prop}{M:Model}
theorem XEk.setFl{p:Option Value→Addr→Prop}{A:Around}{f:Option Addr}(h:XEk p X E e s)(hp:∀ fl L,p fl L→fl≠none):
  wpAny M A (setFlight e f) (fun _ s'=>XEk (fun fl _=>fl=some (f.elim Value.none fun f=>rawInt f)) X E e s') EE s:=by
 obtain⟨a,L,cls,σ,H,fl,S,env0,rest,rfl,hs,hf0,hf,I,ex,hp',hS,hE⟩:=h
 cases ex with
 | made=>exact absurd rfl (hp _ _ hp')
 | @ent oe oT vs ts a0 fl T he hc hd h0 h1 hTa hT hdT h3=>
  have h3s:3<ts.size:=(Array.getElem?_eq_some_iff.mp h3).1
  unfold setFlight
  refine wpAny_bind (wpAny_field he hd h1 ?_)
  rw [if_pos (show (Value.ref T != Value.none)=true from by simp)]
  refine wpAny_setField hT hdT h3s ?_
  have other:∀ b,b≠T→(s.heap.update T (Obj.mapFields (·.setIfInBounds 3 (f.elim Value.none fun f=>rawInt f)))).get? b=s.heap.get? b:=fun b n=>Heap.get?_update_other _ _ (Ne.symm n)
  have self:=Heap.get?_update_self (Obj.mapFields (·.setIfInBounds 3 (f.elim Value.none fun f=>rawInt f))) hT (Obj.isFreed_of_fields (Obj.data_mapFields hdT _))
  have I':=I.fly (t':=s.toks) (h':=s.heap.update T (Obj.mapFields (·.setIfInBounds 3 (f.elim Value.none fun f=>rawInt f)))) hS (fun b o q n _=>by rw [other b (fun z=>n (by simp [z]))]; exact q) fun b o q hb=>by
   have n:b≠T:=fun z=>by
    obtain⟨_,o',e',nf⟩:=I.stack.mem hb
    rw [z,hT] at e'; cases e'
    exact nf ts hdT
   exact⟨o.slots,by rw [other b n]; exact q⟩
  exact⟨a,L,cls,σ,H,_,_,env0,rest,rfl,hs,hf0,hf,I',.ent ((other a (Ne.symm hTa)).trans he) hc hd h0 h1 hTa self (Obj.data_mapFields hdT _) (by simp [h3s]),rfl,hS,hE⟩
theorem dU.hasTb{Q:Value→Shared→Prop}{A:Around}(h:dU X E e s)(q:∀ v,(v==Value.none)=false→Q v s):wpAny M A (field e 1) Q EE s:=by
 obtain⟨a,L,cls,σ,H,fl,S,env0,rest,rfl,hs,hf0,hf,I,ex,hp',hS,hE⟩:=h
 cases ex with
 | made=>cases hp'
 | ent he hc hd h0 h1=>exact wpAny_field he hd h1 (q _ (by simp))
theorem dU.passAny{α:Type}{A:Around}{env:Env}{what:String}{Q:α→Shared→Prop}(h:dU X E e s)(k:∀ s',XE X E e s'→EE e s'):wpAny M A (PySem.passOn what e env:Sem α) Q EE s:=by
 unfold PySem.passOn
 refine wpAny_bind (h.hasTb fun v hv=>?_)
 rw [hv]
 simp only [Bool.false_eq_true,if_false]
 exact wpAny_bind (wpAny_mono (XEk.setFl (f:=env.frame) h fun fl L z=>by rw [z]; simp) (fun _ s' z=>wpAny_throw (k s' (XEk.imp z fun _ _ _=>trivial))) fun _ _ z=>z)
end
def gU(X:Cx):Prop:=∃ (L:Addr) (env0:Env) (rest:List Env),X.stack=env0::rest∧env0.frame=some L∧X.env.frame=some L
abbrev Cx.exc(X:Cx)(E:XK):Cx:=X.wish (XE X E)
theorem gQ{CX:CXT}{P:Program}{w:World}{K:PySem.W.Frag}{mg:Str→Option Value}{base:Heap}{N:List Str}{qual:Str}{scope:Scope}{f:Addr}{cd:Value}{A:Around}{outer:List Env}{s:Shared}{H:Hp}{E:XK}:gU (mJ CX P w K mg base N qual scope f cd A outer s H E):=⟨_,_,_,rfl,rfl,rfl⟩
section
variable{X:Cx}{n:Nat}{N':List Str}{scope:Scope}{elt tg iter:Expr}{pos:Pos}{pins:List (Addr×Obj)}{σ:St}{H2:Hp}{s2:Shared}{cl:List (Str×Addr)}
theorem i4{E0:XK}{C:Addr}{fp:List Addr}{x:Value}{s':Shared}(I2:Inv X pins σ H2 s2)(f2:∀ b∈fp,dS X pins H2 b)(fr:gU X)(h:dU (ao X N' scope cl C fp s2 H2) E0 x s'):
  ∃ m,s'.heap.Ns C m∧∀ h',Heap.SameBut C s'.heap h'→∀ cenv:Env,cenv.locals=C→wpAny (model X.prog X.w) X.A (PySem.passOn "comprehension.variables-let-go" x cenv:Sem Value) (fun _ _=>False) (XE X E0) {s' with heap:=h'}:=by
 obtain⟨a,L,cls,σ',H',fl,S,env0,rest,rfl,hs,hf0,hf,I',ex,hp,hS,hE⟩:=h
 obtain⟨m,hn,_⟩:=I'.loc
 refine⟨m,hn,fun h' sb cenv hc=>?_⟩
 have I0:Inv X [] σ H2 s2:=I2.pins_of fun p hp=>by simp at hp
 have un:Un (frs X.stack) fp H2 H' s2.heap s'.heap:=I'.base
 have IX:Inv X [] σ H' s':=I0.call' (ch:=fp) I'.os un I'.hok I'.bare fun b hb=>by
  obtain⟨f0,f1,ff,f3,f4,f5⟩:=f2 b hb
  exact⟨f3,f1,f4,fun p hp=>f5 p (List.mem_append_left _ (by simpa using hp))⟩
 have lo:∀ b∈S,cB X [] H' b:=fun b hb=>by
  obtain⟨u,nw,_,_,_⟩:=hS b hb
  rcases nw with z | z
  ·obtain⟨f0,f1,ff,f3,f4,f5⟩:=f2 b z
   exact⟨u,f3.imp id Heap.get?_none_of_le,Ne.symm (Ne.symm f1),f4,fun p hp=>f5 p (List.mem_append_left _ (by simpa using hp))⟩
  ·obtain⟨_,l2,l3,l4,l5⟩:=I0.loose z
   exact⟨u,l2,l3,l4,l5⟩
 have nC:∀ b∈S,b≠C:=fun b hb=>(hS b hb).loc
 have lC:s2.heap.objs.size≤C:=I'.ok.above
 have cL:cB X [] H' C:=by
  obtain⟨_,l2,l3,l4,l5⟩:=I0.loose (Heap.get?_none_of_le lC)
  exact⟨I'.free,l2,l3,l4,l5⟩
 have nF:C∉frs X.stack:=fun z=>by
  obtain⟨_,o,e,_⟩:=I2.stack.mem z
  exact absurd (Heap.lt_size e) (Nat.not_lt.mpr lC)
 have IY:Inv X [] σ H' {s' with heap:=h'}:=IX.fly (t':=s'.toks) (S:=[C]) (fun b hb=>by rw [List.mem_singleton.mp hb]; exact cL) (fun b o q n1 _=>(sb.2 b (fun z=>n1 (by simp [z]))).trans q) fun b o q hb=>⟨o.slots,(sb.2 b (fun z=>nF (by rw [← z]; exact hb))).trans q⟩
 have exY:Exc h' a cls fl S:=by
  cases ex with
  | made he hc hd h0 h1=>exact .made ((sb.2 a (nC a (by simp))).trans he) hc hd h0 h1
  | @ent oe oT vs ts a0 fl T he hc hd h0 h1 hTa hT hdT h3=>exact .ent ((sb.2 a (nC a (by simp))).trans he) hc hd h0 h1 hTa ((sb.2 T (nC T (by simp))).trans hT) hdT h3
 have hX:dU X E0 (.ref a) {s' with heap:=h'}:=⟨a,L,cls,σ,H',fl,S,env0,rest,rfl,hs,hf0,hf,IY,exY,hp,lo,hE⟩
 exact hX.passAny fun s'' z=>z
end
section
variable{X:Cx}{pins:List (Addr×Obj)}{σ:St}{H:Hp}{s:Shared}
end
end L2
set_option maxHeartbeats 8000000
namespace L2
open PySem PySem.Spec PyProof.Rows
section
variable{prog:Program}{w:World}{A:Around}{E:Value→Shared→Prop}{h:Heap}{g:Array GenState}{d:Drawn}{t:Nat}{os:OsState}{a C:Addr}{o:Obj}{K:PySem.W.Frag}
end
end L2
set_option maxHeartbeats 4000000
namespace L2
open PySem PySem.Spec PyProof.Rows
section
variable{X:Cx}
end
section
variable{κ:Type}[DecidableEq κ]
def bo(kvs:List (κ×V))(k:κ):Option V:=(kvs.find? fun kv=>decide (kv.1=k)).map (·.2)
def putK(kvs:List (κ×V))(k:κ)(v:V):List (κ×V):=
 if (kvs.any fun kv=>decide (kv.1=k))=true then kvs.map (fun kv=>if kv.1=k then (kv.1,v) else kv) else kvs++[(k,v)]
theorem br{p:κ×V}{r:List (κ×V)}{k:κ}(e:p.1=k):bo (p::r) k=some p.2:=by simp [bo,List.find?_cons,e]
theorem bt{p:κ×V}{r:List (κ×V)}{k:κ}(e:¬ p.1=k):bo (p::r) k=bo r k:=by simp [bo,List.find?_cons,e]
theorem fW(k:κ):∀ kvs:List (κ×V),(kvs.any fun kv=>decide (kv.1=k))=(bo kvs k).isSome
 | []=>rfl
 | p::r=>by
  rw [List.any_cons]
  by_cases e:p.1=k
  ·simp only [br e,decide_eq_true e,Bool.true_or,Option.isSome_some]
  ·rw [bt e,decide_eq_false e,Bool.false_or]; exact fW k r
theorem kY(k j:κ)(y:V):∀ kvs:List (κ×V),bo (kvs.map fun kv=>if kv.1=k then (kv.1,y) else kv) j=(bo kvs j).map fun x=>if j=k then y else x
 | []=>rfl
 | p::r=>by
  have ih:=kY k j y r
  rw [List.map_cons]
  by_cases h:p.1=k
  ·rw [if_pos h]
   by_cases e:p.1=j
   ·rw [br (p:=(p.1,y)) e,br e,Option.map_some,if_pos (e.symm.trans h)]
   ·rw [bt (p:=(p.1,y)) e,bt e,ih]
  ·rw [if_neg h]
   by_cases e:p.1=j
   ·rw [br (p:=p) e,br e,Option.map_some,if_neg (fun z=>h (e.trans z))]
   ·rw [bt (p:=p) e,bt e,ih]
theorem jp(k j:κ)(y:V):∀ kvs:List (κ×V),bo kvs k=none→bo (kvs++[(k,y)]) j=if j=k then some y else bo kvs j
 | [],_=>by
  by_cases e:k=j
  ·rw [if_pos e.symm]; exact br (p:=(k,y)) e
  ·rw [if_neg (fun z=>e z.symm)]; exact bt (p:=(k,y)) e
 | p::r,hn=>by
  rw [List.cons_append]
  have hk:¬ p.1=k:=fun z=>by rw [br z] at hn; cases hn
  rw [bt hk] at hn
  have ih:=jp k j y r hn
  by_cases e:p.1=j
  ·rw [br e,br e,if_neg (fun z=>hk (e.trans z))]
  ·rw [bt e,bt e,ih]
theorem ir(kvs:List (κ×V))(k j:κ)(y:V):bo (putK kvs k y) j=if j=k then some y else bo kvs j:=by
 unfold putK
 by_cases a:(kvs.any fun kv=>decide (kv.1=k))=true
 ·rw [if_pos a,kY]
  rw [fW] at a
  by_cases e:j=k
  ·obtain⟨x,hx⟩:=Option.isSome_iff_exists.mp a
   rw [if_pos e,e,hx,Option.map_some,if_pos rfl]
  ·rw [if_neg e]
   cases bo kvs j with
   | none=>rfl
   | some x=>rw [Option.map_some,if_neg e]
 ·rw [if_neg a]
  refine jp k j y kvs ?_
  rw [fW] at a
  cases q:bo kvs k with
  | none=>rfl
  | some x=>rw [q] at a; exact(a rfl).elim
theorem bg(kvs:List (κ×V))(k:κ)(v:V):(putK kvs k v).length≤kvs.length+1:=by
 unfold putK
 split
 ·rw [List.length_map]; omega
 ·rw [List.length_append,List.length_cons,List.length_nil]; omega
theorem eZ.isSome_eq{o:Option V}{u:Option Value}(r:eZ o u):o.isSome=u.isSome:=by
 cases o with
 | none=>cases u with
  | none=>rfl
  | some _=>exact(show False from r).elim
 | some _=>cases u with
  | none=>exact(show False from r).elim
  | some _=>rfl
theorem KV.val{kvs:List (κ×V)}{vs:List (κ×Value)}(r:KV kvs vs)(k:κ):eZ (bo kvs k) (valueAt vs k):=by
 unfold KV at r
 induction r with
 | nil=>exact True.intro
 | @cons p q ps qs h t ih=>
  obtain⟨h1,h2⟩:=h
  by_cases e:p.1=k
  ·have e':q.1=k:=h1.symm.trans e
   have b:valueAt (q::qs) k=some q.2:=by simp [valueAt,List.find?_cons,e']
   rw [br e,b]; exact h2
  ·have e':¬ q.1=k:=fun z=>e (h1.trans z)
   have b:valueAt (q::qs) k=valueAt qs k:=by simp [valueAt,List.find?_cons,e']
   rw [bt e,b]; exact ih
theorem KV.any{kvs:List (κ×V)}{vs:List (κ×Value)}(r:KV kvs vs)(k:κ):(kvs.any fun kv=>decide (kv.1=k))=vs.any fun kv=>decide (kv.1=k):=by
 unfold KV at r
 induction r with
 | nil=>rfl
 | cons h t ih=>rw [List.any_cons,List.any_cons,ih,h.1]
theorem KV.repl{kvs:List (κ×V)}{vs:List (κ×Value)}(r:KV kvs vs)(k:κ){y:V}{u:Value}(ry:az y u):
  KV (kvs.map fun kv=>if kv.1=k then (kv.1,y) else kv) (vs.map fun kv=>if kv.1=k then (kv.1,u) else kv):=by
 unfold KV at r ⊢
 induction r with
 | nil=>exact .nil
 | @cons p q ps qs h t ih=>
  rw [List.map_cons,List.map_cons]
  refine .cons ?_ ih
  obtain⟨h1,h2⟩:=h
  by_cases e:p.1=k
  ·rw [if_pos e,if_pos (h1.symm.trans e)]; exact⟨h1,ry⟩
  ·rw [if_neg e,if_neg (fun z=>e (h1.trans z))]; exact⟨h1,h2⟩
theorem KV.put{kvs:List (κ×V)}{vs:List (κ×Value)}(r:KV kvs vs)(k:κ){y:V}{u:Value}(ry:az y u):KV (putK kvs k y) (stored vs k u):=by
 unfold putK stored
 rw [r.any k]
 by_cases e:(vs.any fun kv=>decide (kv.1=k))=true
 ·rw [if_pos e,if_pos e]; exact r.repl k ry
 ·rw [if_neg e,if_neg e]; exact Paired.snoc r ⟨rfl,ry⟩
theorem KV.keys{kvs:List (κ×V)}{vs:List (κ×Value)}(r:KV kvs vs):kvs.map (·.1)=vs.map (·.1):=by
 unfold KV at r
 induction r with
 | nil=>rfl
 | cons h t ih=>rw [List.map_cons,List.map_cons,ih,h.1]
theorem KV.length{kvs:List (κ×V)}{vs:List (κ×Value)}(r:KV kvs vs):kvs.length=vs.length:=Paired.length r
end
theorem mw{P:Program}{w:World}{k:Key}{u:Value}(r:az (kV k) u):(aI P w).is k u=true:=by
 cases k with
 | inl i=>obtain⟨t,e⟩:=(show ∃ t,u=Value.int i t from r); subst e; exact mj P w i t
 | inr x=>obtain⟨t,e⟩:=(show ∃ t,u=Value.str x t from r); subst e; exact mi P w x t
theorem jN{P:Program}{w:World}:∀ {ks:List Key} {us:List Value},aw (ks.map kV) us→ItemsAre (aI P w) ks us
 | [],_,r=>by rw [List.map_nil] at r; cases r; exact .nil
 | k::ks,_,r=>by
  rw [List.map_cons] at r
  cases r with
  | cons h t=>exact .cons (mw h) (jN t)
abbrev KT(H:Hp):List (List Key×V)→List (List Key×Addr×Value)→Prop:=Paired fun p q=>p.1=q.1∧H q.2.1=some (.tup (p.1.map kV))∧az p.2 q.2.2
theorem KT.val{H:Hp}{kvs:List (List Key×V)}{xs:List (List Key×Addr×Value)}(r:KT H kvs xs)(k:List Key):eZ (bo kvs k) ((atKey xs k).map (·.2)):=by
 induction r with
 | nil=>exact True.intro
 | @cons p q ps qs h t ih=>
  obtain⟨h1,_,h2⟩:=h
  by_cases e:p.1=k
  ·have e':q.1=k:=h1.symm.trans e
   have b:atKey (q::qs) k=some q.2:=by simp [atKey,List.find?_cons,e']
   rw [br e,b]; exact h2
  ·have e':¬ q.1=k:=fun z=>e (h1.trans z)
   have b:atKey (q::qs) k=atKey qs k:=by simp [atKey,List.find?_cons,e']
   rw [bt e,b]; exact ih
theorem KT.repl{H:Hp}{kvs:List (List Key×V)}{xs:List (List Key×Addr×Value)}(r:KT H kvs xs)(k:List Key){y:V}{u:Value}(ry:az y u):
  KT H (kvs.map fun kv=>if kv.1=k then (kv.1,y) else kv) (xs.map (putAt k u)):=by
 induction r with
 | nil=>exact .nil
 | @cons p q ps qs h t ih=>
  rw [List.map_cons,List.map_cons]
  refine .cons ?_ ih
  obtain⟨h1,h2,h3⟩:=h
  unfold putAt
  by_cases e:p.1=k
  ·rw [if_pos e,if_pos (h1.symm.trans e)]; exact⟨h1,h2,ry⟩
  ·rw [if_neg e,if_neg (fun z=>e (h1.trans z))]; exact⟨h1,h2,h3⟩
theorem KT.put{H:Hp}{kvs:List (List Key×V)}{xs:List (List Key×Addr×Value)}(r:KT H kvs xs)(k:List Key){b:Addr}{y:V}{u:Value}(hb:H b=some (.tup (k.map kV)))(ry:az y u):
  KT H (putK kvs k y) (storedH xs k b u):=by
 have e:(kvs.any fun kv=>decide (kv.1=k))=(atKey xs k).isSome:=by
  rw [fW,(r.val k).isSome_eq,Option.isSome_map]
 unfold putK storedH
 rw [e]
 by_cases q:(atKey xs k).isSome=true
 ·rw [if_pos q,if_pos q]; exact r.repl k ry
 ·rw [if_neg q,if_neg q]; exact Paired.snoc r ⟨rfl,hb,ry⟩
theorem KT.keeps{H H':Hp}{kvs:List (List Key×V)}{xs:List (List Key×Addr×Value)}(r:KT H kvs xs)(ht:∀ b ys,H b=some (.tup ys)→H' b=some (.tup ys)):KT H' kvs xs:=
 Paired.mapP r fun _ _ z=>⟨z.1,ht _ _ z.2.1,z.2.2⟩
section
variable{P:Program}{w:World}{H:Hp}{h:Heap}{a:Addr}
theorem xj{u:HO}(ok:HOk P w H h)(e:Rd H a u):aF P w H h a u:=e.ok ok
theorem pC{kvs:List (Key×V)}(ok:HOk P w H h)(e:Rd H a (.dK kvs)):kvs.length≤sizeLine∧(a==sysModules)=false∧∃ vs,KV kvs vs∧h.DictOf (aI P w) a vs:=
 show aF P w H h a (.dK kvs) from xj ok e
theorem zZ{kvs:List (Key×V)}(ok:HOk P w H h)(e:H a=some (.dK kvs)):kvs.length≤sizeLine∧(a==sysModules)=false∧∃ vs,KV kvs vs∧h.DictOf (aI P w) a vs:=pC ok (.inl e)
theorem kI{ks:List Key}(ok:HOk P w H h)(e:H a=some (.tup (ks.map kV))):(tupleKind (aI P w)).is h ks a:=by
 obtain⟨_,its,r,o,h1,h2,n,h3⟩:=(show aF P w H h a (.tup (ks.map kV)) from ok a _ e)
 exact⟨o,its.toArray,n,h1,h2,h3,by simpa using jN r⟩
theorem pB{kvs:List (List Key×V)}(ok:HOk P w H h)(e:Rd H a (.dT kvs)):kvs.length≤sizeLine∧(a==sysModules)=false∧
  ∃ xs,KT H kvs xs∧h.DictOfH (tupleKind (aI P w)) a xs:=by
 obtain⟨z,y,xs,r,o,es,ep,h1,h2,h3,h4,h5⟩:=(show aF P w H h a (.dT kvs) from xj ok e)
 refine⟨z,y,xs,r,o,es,ep,h1,h2,h3,h4,fun x hx=>?_,h5⟩
 have all:∀ {l:List (List Key×V)} {m:List (List Key×Addr×Value)},KT H l m→∀ x∈m,(tupleKind (aI P w)).is h x.1 x.2.1:=by
  intro l m q
  induction q with
  | nil=>intro x hx; exact nomatch hx
  | @cons p q ps qs hq t ih=>
   intro x hx
   rcases List.mem_cons.mp hx with e | hx
   ·subst e
    exact kI ok (by rw [← hq.1]; exact hq.2.1)
   ·exact ih x hx
 exact all r x hx
theorem zU{kvs:List (List Key×V)}(ok:HOk P w H h)(e:H a=some (.dT kvs)):kvs.length≤sizeLine∧(a==sysModules)=false∧
  ∃ xs,KT H kvs xs∧h.DictOfH (tupleKind (aI P w)) a xs:=pB ok (.inl e)
end
def fR(H:Hp)(a:Addr)(y:V)(r:Option V):Prop:=
 (∃ kvs k,Rd H a (.dK kvs)∧y=kV k∧r=bo kvs k)∨∃ kvs k b,Rd H a (.dT kvs)∧y=.ref b∧H b=some (.tup (k.map kV))∧r=bo kvs k
def rc(H:Hp)(a:Addr)(y v:V)(H':Hp):Prop:=
 (∃ kvs k,H a=some (.dK kvs)∧y=kV k∧kvs.length<sizeLine∧H'=upd H a (.dK (putK kvs k v)))∨
 ∃ kvs k b,H a=some (.dT kvs)∧y=.ref b∧H b=some (.tup (k.map kV))∧kvs.length<sizeLine∧H'=upd H a (.dT (putK kvs k v))
theorem fR.k{H:Hp}{a:Addr}{kvs:List (Key×V)}{k:Key}(e:H a=some (.dK kvs)):fR H a (kV k) (bo kvs k):=.inl ⟨kvs,k,.inl e,rfl,rfl⟩
theorem rc.k{H:Hp}{a:Addr}{kvs:List (Key×V)}{k:Key}{v:V}(e:H a=some (.dK kvs))(hl:kvs.length<sizeLine):rc H a (kV k) v (upd H a (.dK (putK kvs k v))):=.inl ⟨kvs,k,e,rfl,hl,rfl⟩
section
variable{X:Cx}{pins:List (Addr×Obj)}{σ:St}{H:Hp}{s:Shared}{a:Addr}{y v:V}{u r:Value}{o:Option V}{A:Around}{E:Value→Shared→Prop}
theorem Inv.big(I:Inv X pins σ H s):sysModules<s.heap.objs.size:=by
 have h:mainGlobals<s.heap.objs.size:=(I.mod.glob.keeps I.bk).lt
 exact Nat.lt_trans (by decide) h
theorem qR{Q:Value→Shared→Prop}(hu:A.units+1<cLine)(I:Inv X pins σ H s)(g:fR H a y (some v))(ry:az y u)(h:∀ w' s',Inv X pins σ H s'→az v w'→Q w' s'):
  wpAny (model X.prog X.w) A (getItem (.ref a) u) Q E s:=by
 rcases g with ⟨kvs,k,e,ey,l⟩ | ⟨kvs,k,b,e,ey,eb,l⟩
 ·subst ey
  obtain⟨z,hd,vs,rel,dd⟩:=pC I.hok e
  obtain⟨w',hw,rw'⟩:=eZ.some_of (v:=v) (o:=valueAt vs k) (by rw [l]; exact rel.val k)
  exact wpAny_getItem_of (mw ry) dd.mapOf hw (h w' _ (I.tok _) rw')
 ·subst ey
  cases (show u=Value.ref b from ry)
  obtain⟨z,hd,xs,rel,dd⟩:=pB I.hok e
  obtain⟨w',hw,rw'⟩:=eZ.some_of (v:=v) (o:=(atKey xs k).map (·.2)) (by rw [l]; exact rel.val k)
  obtain⟨p,hp,hp2⟩:=Option.map_eq_some_iff.mp hw
  refine wpAny_getItem_heap (tupleKind_room_in1 hu) (kI I.hok eb) dd hp ?_
  rw [hp2]
  exact h w' _ (I.tok _) rw'
theorem wN{Q:Value→Shared→Prop}(hu:A.units+1<cLine)(I:Inv X pins σ H s)(g:fR H a y o)(ry:az y u)(h:∀ s',Inv X pins σ H s'→Q (.bool (!o.isSome)) s'):
  wpAny (model X.prog X.w) A (compareOp .NotIn u (.ref a)) Q E s:=by
 rcases g with ⟨kvs,k,e,ey,l⟩ | ⟨kvs,k,b,e,ey,eb,l⟩
 ·subst ey
  obtain⟨z,hd,vs,rel,dd⟩:=pC I.hok e
  refine wpAny_notIn_of (mw ry) hd dd.mapOf ?_
  rw [← (rel.val k).isSome_eq,← l]
  exact h _ (I.tok _)
 ·subst ey
  cases (show u=Value.ref b from ry)
  obtain⟨z,hd,xs,rel,dd⟩:=pB I.hok e
  refine wpAny_notIn_heap (tupleKind_room_in1 hu) (kI I.hok eb) hd dd ?_
  have q:=(rel.val k).isSome_eq
  rw [Option.isSome_map] at q
  rw [← q,← l]
  exact h _ (I.tok _)
theorem pH{h':Heap}{t':Nat}{ob:HO}(I:Inv X pins σ H s)(mu:Mut (H a))(hs:Heap.SameBut a s.heap h')(he:∃ q,h'.get? a=some q)(new:aF X.prog X.w (upd H a ob) h' a ob):
  Inv X pins σ (upd H a ob) {s with heap:=h',toks:=t'}:=
 I.write (x:=a) (e:=a) mu (.inl rfl) (fun b q hb z=>(hs.2 b hb).trans z) he new
theorem yM{P:Program}{w:World}{H':Hp}{h':Heap}{kvs:List (Key×V)}{vs:List (Key×Value)}(z:kvs.length≤sizeLine)(hd:(a==sysModules)=false)(rel:KV kvs vs)(dd:h'.DictOf (aI P w) a vs):
  aF P w H' h' a (.dK kvs):=⟨z,hd,vs,rel,dd⟩
theorem qQ{H':Hp}{Q:Unit→Shared→Prop}(hu:A.units+1<cLine)(I:Inv X pins σ H s)(g:rc H a y v H')(ry:az y u)(rv:az v r)(h:∀ s',Inv X pins σ H' s'→Q () s'):
  wpAny (model X.prog X.w) A (setItem (.ref a) u r) Q E s:=by
 rcases g with ⟨kvs,k,e,ey,l,eH⟩ | ⟨kvs,k,b,e,ey,eb,l,eH⟩
 ·subst ey eH
  obtain⟨z,hd,vs,rel,dd⟩:=zZ I.hok e
  have hz:vs.length≤sizeLine:=by rw [← rel.length]; exact z
  have hl:(putK kvs k v).length≤sizeLine:=by have:=bg kvs k v; omega
  refine wpAny_setItem_pairs (hsz:=hz) (mw ry) dd fun h' dd' hs=>h _ ?_
  have he:∃ q,h'.get? a=some q:=let ⟨q,_,_,hq,_⟩:=dd'; ⟨q,hq⟩
  exact pH I (by rw [e]; exact True.intro) hs he (yM hl hd (rel.put k rv) dd')
 ·subst ey eH
  cases (show u=Value.ref b from ry)
  obtain⟨z,hd,xs,rel,dd⟩:=zU I.hok e
  have hz:xs.length≤sizeLine:=by rw [← Paired.length rel]; exact z
  have hl:(putK kvs k v).length≤sizeLine:=by have:=bg kvs k v; omega
  refine wpAny_setItem_heap (hsz:=hz) (tupleKind_room_in1 hu) (kI I.hok eb) dd fun h' dd' hs=>h _ ?_
  obtain⟨q,es,ep,hq,h2,h3,h4,_,h5⟩:=dd'
  refine pH I (by rw [e]; exact True.intro) hs ⟨q,hq⟩ ⟨hl,hd,_,(rel.put k eb rv).keeps fun c ys ec=>?_,q,es,ep,hq,h2,h3,h4,h5⟩
  rw [ad (zG ec e (fun z=>nomatch z))]
  exact ec
end
section
variable{X:Cx}{pins:List (Addr×Obj)}{σ:St}{H:Hp}{s:Shared}{a:Addr}{kvs:List (Key×V)}{k:Key}{u:Value}{A:Around}{E:Value→Shared→Prop}
end
def Ag(i:Expr):Prop:=∀ ov iv,subscripted i false ov iv=operate [ov,iv] (getItem ov iv)
theorem u6{prog:Program}{w:World}{A:Around}{E:Value→Shared→Prop}{s:Shared}{env:Env}{value slice:Expr}{pos:Pos}{T id:String}{Q:Value→Shared→Prop}
  (hl:typeLookup (.type T) "__getitem__"=pure (some (.builtin id))) (hs:Ag slice)
  (h:wpAny (model prog w) A (eval value env) (fun o s₁=>wpAny (model prog w) A (eval slice env) (fun i s₂=>s₂.TypeIs o T∧wpAny (model prog w) A (getItem o i) Q E s₂) E s₁) E s) :
  wpAny (model prog w) A (eval (.Subscript value slice pos) env) Q E s:=by
 refine Subscript_ (wpAny_mono h (fun o s₁ h₁=>wpAny_mono h₁ (fun i s₂ h₂=>?_) fun _ _ x=>x) fun _ _ x=>x)
 obtain⟨hT,h₂⟩:=h₂
 unfold subscriptTail
 refine wpAny_bind ?_
 rw [getitemInPython_of_ne hT.not_modules]
 refine wpAny_bind (wpAny_specialOf hT hl ?_)
 have fin:wpAny (model prog w) A (subscripted slice false o i) (fun r s₃=>wpAny (model prog w) A (letTemporaryGo value o r>>=fun _=>pure r) Q E s₃) E s₂:=by
  rw [hs o i]
  exact wpAny_operating (wpAny_mono h₂ (fun r s₃ h₃=>wpAny_bind (wpAny_letTemporaryGo (wpAny_pure h₃))) fun _ _ x=>x)
 first
  | exact wpAny_pure (wpAny_bind fin)
  | exact wpAny_bind (wpAny_pure (wpAny_bind fin))
  | exact wpAny_bind fin
theorem mI{X:Cx}{pins:List (Addr×Obj)}{σ:St}{H:Hp}{s:Shared}{a:Addr}{y:V}{o:Option V}(I:Inv X pins σ H s)(g:fR H a y o):s.TypeIs (.ref a) "dict":=by
 rcases g with ⟨kvs,k,e,_,_⟩ | ⟨kvs,k,b,e,_,_,_⟩
 ·obtain⟨_,_,vs,_,dd⟩:=pC I.hok e
  exact dd.typeIs
 ·obtain⟨_,_,xs,_,dd⟩:=pB I.hok e
  exact dd.typeIs
inductive tDGetI(Q:VK)(x:V)(y:V)(H2:Hp):Prop where
 | mk:∀ a v,x=.ref a→fR H2 a y (some v)→Q v H2→tDGetI Q x y H2
def za(td ty:TE):TE:=fun σ H Q=>td σ H fun x H1=>ty σ H1 fun y H2=>tDGetI Q x y H2
inductive tDNotInI(Q:VK)(y:V)(x:V)(H2:Hp):Prop where
 | mk:∀ a o,x=.ref a→fR H2 a y o→Q (.bl (!o.isSome)) H2→tDNotInI Q y x H2
def u5(ty td:TE):TE:=fun σ H Q=>ty σ H fun y H1=>td σ H1 fun x H2=>tDNotInI Q y x H2
inductive sDPutI(D:dn)(σ:St)(v:V)(x:V)(y:V)(H3:Hp):Prop where
 | mk:∀ a H4,x=.ref a→rc H3 a y v H4→D.nx σ H4→sDPutI D σ v x y H3
def zh(td ty tv:TE):TS:=fun D σ H=>tv σ H fun v H1=>td σ H1 fun x H2=>ty σ H2 fun y H3=>sDPutI D σ v x y H3
section
variable{X:Cx}{o i e value:Expr}{pos pos' tpos:Pos}{td ty tv:TE}
theorem vE(hu:X.A.units+1<cLine)(ho:PE X o td)(hi:PE X i ty)(hs:Ag i):PE X (.Subscript o i pos) (za td ty):=by
 intro pins s σ H Q I h
 refine u6 PySem.F.slot_dict_getitem.lookup hs (thn (ho pins s σ H _ I h) fun u s1 ⟨x,H1,I1,rx,q1⟩=>thn (hi pins s1 σ H1 _ I1 q1) fun iv s2 ⟨y,H2,I2,ry,a,v,ex,g,q2⟩=>?_)
 subst ex
 obtain rfl:u=Value.ref a:=rx
 exact⟨mI I2 g,qR hu I2 g ry fun w' s3 I3 rw'=>⟨v,H2,I3,rw',q2⟩⟩
theorem qf(hu:X.A.units+1<cLine)(hi:PE X i ty)(ho:PE X o td):PC X .NotIn i o (u5 ty td):=by
 intro pins s σ H Q I h
 refine thn (hi pins s σ H _ I h) fun iv s1 ⟨y,H1,I1,ry,q1⟩=>thn (ho pins s1 σ H1 _ I1 q1) fun u s2 ⟨x,H2,I2,rx,a,ov,ex,g,q2⟩=>?_
 subst ex
 obtain rfl:u=Value.ref a:=rx
 exact wN hu I2 g ry fun s3 I3=>⟨.bl (!ov.isSome),H2,I3,rfl,q2⟩
theorem vq(hu:X.A.units+1<cLine)(ho:PE X o td)(hi:PE X i ty)(hv:PE X value tv)(hs:swapsWith value (some (.Subscript o i pos')) pos.line X.env=pure false):
  PS X (.Assign [.Subscript o i pos'] value pos) (zh td ty tv):=by
 intro pins s σ H D I h
 refine wpAny_Assign_Subscript (thn (hv pins s σ H _ I h) fun r s1 ⟨v,H1,I1,rv,q1⟩=>thn (ho pins s1 σ H1 _ I1 q1) fun u s2 ⟨x,H2,I2,rx,q2⟩=>thn (hi pins s2 σ H2 _ I2 q2) fun iv s3 ⟨y,H3,I3,ry,a,H4,ex,g,q3⟩=>?_) hs
 subst ex
 obtain rfl:u=Value.ref a:=rx
 exact qQ hu I3 g ry rv fun s4 I4=>⟨σ,H4,I4,q3⟩
end
theorem uJ{P:Program}{w:World}{H:Hp}(h:Heap)(hb:sysModules<h.objs.size):aF P w H (h.push {cls:=.type "dict",data:=.dict #[]}) h.objs.size (.dK []):=
 ⟨Nat.zero_le _,beq_eq_false_iff_ne.mpr (Ne.symm (Nat.ne_of_lt hb)),[],.nil,Heap.DictOf.new h⟩
def xG:TE:=fun _ H Q=>∀ p,H p=none→Q (.ref p) (upd H p (.dK []))
section
variable{X:Cx}{pos:Pos}
theorem tG:PE X (.Dict [] [] pos) xG:=fun pins s σ H Q I h=>
 wpAny_Dict_empty ⟨.ref s.heap.objs.size,_,I.laid (a:=s.heap.objs.size) (o:=.dK []) (t':=s.toks) (fun _ _ q=>Heap.get?_push_of_some _ q) (Nat.le_refl _) (uJ s.heap I.big),rfl,h _ (I.hok.fresh (Nat.le_refl _))⟩
end
structure M1(X:Cx)(o:Expr)(m:Str)(apos:Pos)(e:Expr)(cpos:Pos):Prop where
 base:attributeBase o m X.env (eval o X.env)=eval o X.env
 few:((backTo cpos (starEach [e] X.env)).all (fun x=>!x.1)&&(backToKw cpos (keywordEach [] X.env)).all (fun x=>x.1.isSome)
  && decide (([e]:List Expr).length+([]:List Keyword).length+(if ([]:List Keyword).isEmpty then 0 else 1)<30))=true
 line:(apos.endLine==cpos.line)=true
 trees:backTo cpos (starEach [e] X.env)=[(false,eval e X.env)]
structure M2(X:Cx)(o:Expr)(m:Str)(apos:Pos)(e f:Expr)(cpos:Pos):Prop where
 base:attributeBase o m X.env (eval o X.env)=eval o X.env
 few:((backTo cpos (starEach [e,f] X.env)).all (fun x=>!x.1)&&(backToKw cpos (keywordEach [] X.env)).all (fun x=>x.1.isSome)
  && decide (([e,f]:List Expr).length+([]:List Keyword).length+(if ([]:List Keyword).isEmpty then 0 else 1)<30))=true
 line:(apos.endLine==cpos.line)=true
 trees:backTo cpos (starEach [e,f] X.env)=[(false,eval e X.env),(false,eval f X.env)]
section
variable{X:Cx}{pins:List (Addr×Obj)}{σ:St}{H:Hp}{s:Shared}{a:Addr}{y d:V}{u r:Value}{o:Option V}{A:Around}{E:Value→Shared→Prop}
end
section
variable{X:Cx}{o e f:Expr}{apos cpos:Pos}{td ty tx:TE}
end
section
variable{X:Cx}{pins:List (Addr×Obj)}{σ:St}{H:Hp}{s:Shared}{a:Addr}{kvs:List (Key×V)}{A:Around}{E:Value→Shared→Prop}
end
section
variable{X:Cx}{pins:List (Addr×Obj)}{σ:St}{H:Hp}{s:Shared}{a:Addr}{y:V}{u:Value}{A:Around}{E:Value→Shared→Prop}
end
section
variable{κ:Type}[DecidableEq κ]
end
theorem eY{prog:Program}{w:World}{A:Around}{R:Result→Shared→Prop}{s:Shared}{elt cnd target iter:Expr}{scope:Scope}{pos:Pos}{it acc:Value}{env:Env}(I:Nat→Shared→Prop)
  (turn:∀ n s,I n s→wpAny (model prog w) A (pyNext it) (fun r s1=>match r with
   | none=>R (.ok .next) s1
   | some v=>wpAny (model prog w) A (letOwnedTupleGo target it v) (fun _ s1'=>wpAny (model prog w) A (assign target env v) (fun _ s2=>
     wpAny (model prog w) A (isTrue cnd env (eval cnd env)) (fun b s3=>if b=true then wpAny (model prog w) A (eval elt env) (fun x s4=>
       wpAny (model prog w) A (call (.builtin "list.append") [acc,x]) (fun _ s5=>∃ m,m<n∧I m s5) (notedBy (model prog w) A env fun e s'=>R (.error e) s') s4) (notedBy (model prog w) A env fun e s'=>R (.error e) s') s3 else ∃ m,m<n∧I m s3) (notedBy (model prog w) A env fun e s'=>R (.error e) s') s2)
     (notedBy (model prog w) A env fun e s'=>R (.error e) s') s1') (notedBy (model prog w) A env fun e s'=>R (.error e) s') s1) (notedBy (model prog w) A env fun e s'=>R (.error e) s') s)
  (n:Nat) (h:I n s):codeAny (model prog w) A (.compLoop (.ListComp elt [⟨target,iter,[cnd],0⟩] scope pos) 0 it acc env) R s:=by
 refine codeAny_loop rfl I (fun n s hI=>?_) n h
 show wpAny _ A ((compTurn (.ListComp elt [⟨target,iter,[cnd],0⟩] scope pos) 0 it acc env).onRaise (fun x=>do noteFrame x env; theTreesLotGoes x)) _ _ s
 refine wpAny_noted ?_
 rw [compTurn_list]
 refine wpAny_bind (wpAny_standAt (wpAny_bind (wpAny_mono (turn n s hI) (fun r s1 h1=>?_) fun _ _ h'=>h')))
 cases r with
 | none=>exact wpAny_pure h1
 | some v=>
  refine wpAny_bind (wpAny_mono h1 (fun _ s1' h1'=>?_) fun _ _ h'=>h')
  refine wpAny_bind (wpAny_mono h1' (fun _ s2 h2=>wpAny_bind (wpAny_mono (wpAny_tests_one h2) (fun ok s3 h3=>?_) fun _ _ h'=>h')) fun _ _ h'=>h')
  cases ok with
  | true=>exact wpAny_bind (wpAny_bind (wpAny_mono h3 (fun x s4 h4=>wpAny_bind (wpAny_mono h4 (fun _ s5 h5=>wpAny_pure (wpAny_pure ⟨rfl,h5⟩)) fun _ _ h'=>h')) fun _ _ h'=>h'))
  | false=>exact wpAny_bind (wpAny_pure (wpAny_pure ⟨rfl,h3⟩))
def pO(n:Nat)(J:It)(g:TG)(tc:TT)(te:TE)(σ:St)(H:Hp)(Q:VK):Prop:=
 ∃ W:Nat→Nat→List V→St→Hp→Prop,(∃ m,W 0 m [] (List.replicate n none++σ) H)∧∀ i m ys σ' H,W i m ys σ' H→
  (J.stop i H∧∀ D,H D=none→Q (.ref D) (upd H D (.lst ys)))∨
  (J.go i H∧ys.length<sizeLine∧∀ x H',J.yld i H x H'→g x σ' H' fun σ2 H2=>tc σ2 H2 fun b H3=>if b=true then ∃ N:VK,te σ2 H3 N∧∀ v H4,N v H4→∃ m',m'<m∧W (i+1) m' (ys++[v]) σ2 H4 else ∃ m',m'<m∧W (i+1) m' ys σ2 H3)
def rJ(n:Nat)(wi:TI)(g:aA TG)(tc:aA TT)(te:aA TE):TE:=fun σ H Q=>wi σ H fun J H1=>∀ cl C ex s Hc,pO n J (g cl C ex s Hc) (tc cl C ex s Hc) (te cl C ex s Hc) σ H1 Q
section
variable{X:Cx}{n:Nat}{N':List Str}{scope:Scope}{elt cnd tg iter:Expr}{pos:Pos}{pins:List (Addr×Obj)}{σ:St}{H2:Hp}{s2:Shared}{cl:List (Str×Addr)}
theorem mN{E0:XK}{it:Addr}{fp:List Addr}{tn:Nat→Heap→Prop}{J:It}{g:aA TG}{tc:aA TT}{te:aA TE}{Q:VK}{E:Value→Shared→Prop}
  (hc:X.calm=true) (S:aM n N' X scope) (c1:∀ x c,cl.lookup x=some c→X.env.cells.lookup x=some c) (c2:∀ x∈scope.names,x.2=.free→∃ c,cl.lookup x.1=some c)
  (I2:Inv X pins σ H2 s2) (T:ic X.prog X.w X.K tg J fp it tn) (st2:tn 0 s2.heap) (f2:∀ b∈fp,dS X pins H2 b)
  (hg:∀ cl C ex s H,PG ((ao X N' scope cl C ex s H).exc E0) tg (g cl C ex s H)) (hcn:∀ cl C ex s H,PT ((ao X N' scope cl C ex s H).exc E0) cnd (tc cl C ex s H)) (he:∀ cl C ex s H,PE ((ao X N' scope cl C ex s H).exc E0) elt (te cl C ex s H))
  (cok:∀ cl C ex s Hc,pO n J (g cl C ex s Hc) (tc cl C ex s Hc) (te cl C ex s Hc) σ H2 Q) :
  wpAny (model X.prog X.w) X.A (newList []) (fun acc s3=>wpAny (model X.prog X.w) X.A (newFunctionEnv scope X.env.globals cl [] X.env.qual none .none (some X.env)) (fun cenv s4=>
   codeAny (model X.prog X.w) X.A (.compStart (.ListComp elt [⟨tg,iter,[cnd],0⟩] scope pos) 0 (.ref it) acc {cenv with scope:=relabel scope X.env})
    (fun r s'=>match r with | .ok _=>b7 X pins σ Q acc cenv.locals s' | .error x=>dU (ao X N' scope cl cenv.locals fp s2 H2) E0 x s') s4) E s3) E s2:=by
 have fl:∀ b∈fp,@LT.lt Nat _ b s2.heap.objs.size:=fun b hb=>by
  obtain⟨o,e,_⟩:=T.obj _ _ st2 b hb
  exact Heap.lt_size e
 have frl:∀ b∈frs X.stack,@LT.lt Nat _ b s2.heap.objs.size:=fun b hb=>by
  obtain⟨_,o,ho,_⟩:=I2.stack.mem hb
  exact Heap.lt_size ho
 have celll:∀ x c,X.env.cells.lookup x=some c→@LT.lt Nat _ c s2.heap.objs.size:=fun x c e=>by
  obtain⟨v,q⟩:=I2.cell x c e
  exact q.lt
 refine wpAny_newObj_type (wpAny_newFunctionEnv S.cell (by intro y hy; simp at hy) (fun h1 hns1 hsb1=>?_) S.kind)
 dsimp only at hns1 hsb1 ⊢
 generalize hH2:s2.heap.push {cls:=.type "list",dict:=none,data:=.seq ([]:List Value).toArray}=G at hns1 hsb1 ⊢
 have hC:@Eq Nat G.objs.size (s2.heap.objs.size+1):=by rw [← hH2,Heap.size_push]
 have hDC:s2.heap.objs.size≠G.objs.size:=by show @Ne Nat _ _; omega
 have below:∀ b,@LT.lt Nat _ b s2.heap.objs.size→b≠G.objs.size∧b≠s2.heap.objs.size:=fun b hb=>⟨by show @Ne Nat _ _; omega,Nat.ne_of_lt hb⟩
 have old:∀ b o,s2.heap.get? b=some o→h1.get? b=some o:=fun b o e=>hsb1.extBut b o (below b (Heap.lt_size e)).1 (Heap.get?_push_of_some _ (hH2▸Heap.get?_push_of_some _ e))
 have hacc:h1.get? s2.heap.objs.size=some {cls:=.type "list",data:=.seq ([]:List Value).toArray 0}:=hsb1.extBut _ _ hDC (Heap.get?_push_of_some _ (hH2▸Heap.get?_push_size _ rfl))
 have hst1:tn 0 h1:=T.keep _ _ _ st2 fun b hb o e=>old b o e
 let X':=ao X N' scope cl G.objs.size fp s2 H2
 obtain⟨W,⟨m0,w0⟩,turn⟩:=cok cl G.objs.size fp s2 H2
 have hXe:X'.xe=X.xe:=rfl
 have stat:∀ {H':Hp} {ps:List (Addr×Obj)},(∀ b∈fp,H' b=none)→(∀ p∈ps,p.1=s2.heap.objs.size)→∀ b∈fp,dS X' ps H' b:=fun {H' ps} hn hp b hb=>by
  obtain⟨f0,f1,ff,f3,f4,f5⟩:=f2 b hb
  refine⟨hn b hb,(below b (fl b hb)).1,fun z=>?_,.inl hb,fun x c e z=>?_,fun p hp' z=>?_⟩
  ·exact(List.mem_cons.mp (I2.stkSub b z)).elim f1 ff
  ·exact f4 x c (c1 x c e) z
  ·have e:p.1=s2.heap.objs.size:=hp p (by simpa [X',ao] using hp')
   exact(below b (fl b hb)).2 (z.symm.trans e)
 have loop:∀ s3:Shared,s3={s2 with heap:=h1,toks:=s2.toks+([]:List (Str×Value)).length}→
   codeAny (model X.prog X.w) X.A (.compLoop (.ListComp elt [⟨tg,iter,[cnd],0⟩] scope pos) 0 (.ref it) (.ref s2.heap.objs.size) (compEnvC scope cl G.objs.size X.env))
    (fun r s'=>match r with | .ok _=>b7 X pins σ Q (.ref s2.heap.objs.size) G.objs.size s' | .error x=>dU (ao X N' scope cl G.objs.size fp s2 H2) E0 x s') s3:=by
  rintro s3 rfl
  have I3:=mM (us:=[]) (k:=0) (s':={s2 with heap:=h1,toks:=s2.toks+([]:List (Str×Value)).length}) S c1 c2 I2 f2 fl rfl hC rfl rfl old ⟨_,hns1⟩ hacc
  refine eY (fun m s'=>∃ i ys us k σ' H',Inv X' [(s2.heap.objs.size,{cls:=.type "list",data:=.seq (us:List Value).toArray k})] σ' H' s'∧aw ys us∧tn i s'.heap∧(∀ b∈fp,H' b=none)∧ys.length≤sizeLine∧W i m ys σ' H') ?_ m0
   ⟨0,[],[],0,_,H2,I3,.nil,hst1,fun b hb=>(f2 b hb).1,Nat.zero_le _,w0⟩
  rintro m s' ⟨i,ys,us,k,σ',H',I',rv,st',fr',hlen,w'⟩
  rcases turn i m ys σ' H' w' with ⟨stop,q⟩ | ⟨go,hlt,step⟩
  ·refine thn (T.done X' rfl rfl rfl hc i _ s' σ' H' _ I' (stat fr' (by simp)) st' stop) fun r s4 ⟨hr,I4⟩=>?_
   subst hr
   show b7 X pins σ Q (.ref s2.heap.objs.size) G.objs.size s4
   obtain⟨m1,hn1,_⟩:=I4.loc
   obtain⟨pD,nD,_,_,_⟩:=I4.pin (s2.heap.objs.size,{cls:=.type "list",data:=.seq us.toArray k}) (List.mem_append_right _ (by simp))
   have nD:H' s2.heap.objs.size=none:=nD
   have pD:s4.heap.get? s2.heap.objs.size=some {cls:=.type "list",data:=.seq us.toArray k}:=pD
   have hok:HOk X.prog X.w (upd H' s2.heap.objs.size (.lst ys)) s4.heap:=fun b u e=>by
    by_cases hb:b=s2.heap.objs.size
    ·subst hb
     rw [aa] at e; cases e
     exact⟨hlen,us,k,rv,pD⟩
    ·rw [ad hb] at e
     exact(I4.hok b u e).stay (fun _ _ _ q=>q) (fun c q=>by rw [ad (ae q nD)]; exact q) fun c xs q=>by rw [ad (ae q nD)]; exact q
   have un:Un (frs X.stack) fp H2 (upd H' s2.heap.objs.size (.lst ys)) s2.heap s4.heap:=by
    have u0:=I4.base
    refine⟨u0.keep,u0.slot,fun b o e n hx=>?_,u0.there,fun b xs e=>?_,fun b o xs e=>?_,fun b ps e=>?_⟩
    ·rw [ad (below b (Heap.lt_size e)).2]; exact u0.free b o e n hx
    ·have q:=u0.tups b xs e
     rw [ad (ae q nD)]; exact q
    ·have q:=u0.frzs b o xs e
     rw [ad (ae q nD)]; exact q
    ·obtain⟨more,q⟩:=u0.tbls b ps e
     exact⟨more,by rw [ad (ae q nD)]; exact q⟩
   have IX:Inv X pins σ (upd H' s2.heap.objs.size (.lst ys)) s4:=I2.call' (ch:=fp) I4.os un hok I4.bare fun b hb=>by
    obtain⟨f0,f1,ff,f3,f4,f5⟩:=f2 b hb
    exact⟨f3,f1,f4,f5⟩
   have hG0:H' G.objs.size=none:=I4.free
   refine⟨s2.heap.objs.size,_,m1,rfl,IX,hn1,⟨by rw [ad (Ne.symm hDC)]; exact hG0,fun z=>?_,fun z=>?_,.inr ?_,fun x c e z=>?_,fun p hp z=>?_⟩,q _ nD⟩
   ·have q1:@LT.lt Nat _ X.env.locals s2.heap.objs.size:=I2.lt
    have q2:@Eq Nat G.objs.size X.env.locals:=z
    omega
   ·have z':G.objs.size∈frs X.outer:=z
    obtain⟨_,o,ho,_⟩:=I2.funs.mem z'
    have q1:@LT.lt Nat _ G.objs.size s2.heap.objs.size:=Heap.lt_size ho
    omega
   ·have q1:=I2.sz
    show @LE.le Nat _ X.s₀.heap.objs.size G.objs.size
    omega
   ·have q1:=celll x c e
    have q2:@Eq Nat c G.objs.size:=z
    omega
   ·have q1:@LT.lt Nat _ p.1 s2.heap.objs.size:=Heap.lt_size (I2.pin p hp).1
    have q2:@Eq Nat p.1 G.objs.size:=z
    omega
  ·refine thn (T.item X' rfl rfl rfl hc i _ s' σ' H' _ I' (stat fr' (by simp)) st' go) fun r s4 ⟨u,hr,h4⟩=>?_
   subst hr
   show wpAny _ _ (letOwnedTupleGo tg (.ref it) u) _ _ s4
   refine thn h4 fun _ s5 ⟨x,H5,I5,r5,y5,st5,fr5⟩=>?_
   have I5':=I5.pinned (stat fr5 (by simp)) (T.obj _ _ st5)
   have w1:=hg cl G.objs.size fp s2 H2 _ s5 σ' H5 x u _ (I5'.wish _) r5 (step x H5 y5)
   refine wpAny_mono w1 (fun _ s6 ⟨σ6,H6,I6,q6⟩=>?_) fun v s hv=>wpAny_mono (XE.note (X:=ao X N' scope cl G.objs.size fp s2 H2) (E:=E0) hv) (fun _ _ z=>z) fun _ _ z=>z
   have w15:=hcn cl G.objs.size fp s2 H2 _ s6 σ6 H6 _ I6 q6
   refine wpAny_mono w15 (fun bb s65 ⟨H65,I65,q65⟩=>?_) fun v s hv=>wpAny_mono (XE.note (X:=ao X N' scope cl G.objs.size fp s2 H2) (E:=E0) hv) (fun _ _ z=>z) fun _ _ z=>z
   cases bb with
   | false=>
    rw [if_neg Bool.false_ne_true] at q65 ⊢
    obtain⟨m',hm',w65⟩:=q65
    have I66:=I65.unwish
    have pinD:=I66.pin (s2.heap.objs.size,{cls:=.type "list",data:=.seq us.toArray k}) (List.mem_append_right _ (List.mem_append_left _ (by simp)))
    refine⟨m',hm',i+1,ys,us,k,σ6,H65,I66.pins_of (fun p hp=>by rw [List.mem_singleton.mp hp]; exact pinD),rv,T.keep _ _ _ st5 fun b hb o e=>?_,fun b hb=>?_,hlen,w65⟩
    ·exact(I66.pin (b,o) (List.mem_append_right _ (List.mem_append_right _ (aP hb e)))).1
    ·obtain⟨o,e,d⟩:=T.obj _ _ st5 b hb
     exact(I66.pin (b,o) (List.mem_append_right _ (List.mem_append_right _ (aP hb e)))).2.1
   | true=>
   rw [if_pos rfl] at q65 ⊢
   obtain⟨NN,q6,hNN⟩:=q65
   have I6:=I65
   have H6:=H65
   have w2:=he cl G.objs.size fp s2 H2 _ s65 σ6 H65 _ I6 q6
   refine wpAny_mono w2 (fun y s7 ⟨v,H7,I7w,r7,q7⟩=>?_) fun v s hv=>wpAny_mono (XE.note (X:=ao X N' scope cl G.objs.size fp s2 H2) (E:=E0) hv) (fun _ _ z=>z) fun _ _ z=>z
   have I7:=I7w.unwish
   obtain⟨m',hm',w7⟩:=hNN v H7 q7
   have pinD:=I7.pin (s2.heap.objs.size,{cls:=.type "list",data:=.seq us.toArray k}) (List.mem_append_right _ (List.mem_append_left _ (by simp)))
   obtain⟨pD,nD,lD,fD,_⟩:=pinD
   refine append_at (hsz:=by rw [List.size_toArray,← rv.length]; exact hlen) pD fun h8 hs8 hD8=>?_
   have nD:H7 s2.heap.objs.size=none:=nD
   have I8:Inv X' (bW fp s5.heap) σ6 H7 {s7 with heap:=h8}:=by
    refine(I7.pins_of (pins':=bW fp s5.heap) fun p hp=>I7.pin p (List.mem_append_right _ (List.mem_append_right _ hp))).turned (t':=s7.toks) (it:=s2.heap.objs.size) (fun b o hb e=>(hs8.2 b hb).trans e) nD lD (.inr (Nat.le_refl _)) (fun x c e z=>?_) fun p hp z=>?_
    ·have q1:=celll x c (c1 x c e)
     have q2:@Eq Nat c s2.heap.objs.size:=z
     omega
    ·have hp':p∈bW fp s5.heap:=by simpa [X',ao] using hp
     have q1:=fl p.1 (eL hp').1
     have q2:@Eq Nat p.1 s2.heap.objs.size:=z
     omega
   have I9:Inv X' [(s2.heap.objs.size,{cls:=.type "list",data:=.seq (us++[y]).toArray (k+1)})] σ6 H7 {s7 with heap:=h8}:=I8.pins_of fun p hp=>by
    have e:p=(s2.heap.objs.size,{cls:=.type "list",data:=.seq (us++[y]).toArray (k+1)}):=by simpa using hp
    subst e
    refine⟨by rw [hD8,List.push_toArray],nD,lD,fD,fun v z=>by cases z⟩
   refine⟨m',hm',i+1,ys++[v],us++[y],k+1,σ6,H7,I9,rv.append (.cons r7 .nil),T.keep _ _ _ st5 fun b hb o e=>?_,fun b hb=>?_,by rw [List.length_append,List.length_singleton]; omega,w7⟩
   ·exact(I8.pin (b,o) (List.mem_append_right _ (aP hb e))).1
   ·obtain⟨o,e,d⟩:=T.obj _ _ st5 b hb
    exact(I8.pin (b,o) (List.mem_append_right _ (aP hb e))).2.1
 exact codeAny_compStart_list (loop _ rfl) (T.self _ 0 _ _ _ hst1 (loop _ rfl))
theorem lJ{E0:XK}{wi:TI}{g:aA TG}{tc:aA TT}{te:aA TE}{i:Nat}{x:Str}{pos' spos:Pos}(hN:X.N.Nodup)(hi0:X.N[i]? = some x)(hx:Loc X.env.scope x)
  (hsw:swapsWith (.ListComp elt [⟨tg,iter,[cnd],0⟩] scope pos) (some (.Name x pos')) spos.line X.env=pure true)
  (fr:gU X) (hc:X.calm=true) (S:aM n N' X scope) (hi:PI (X.exc E0) tg iter wi)
  (hg:∀ cl C ex s H,PG ((ao X N' scope cl C ex s H).exc E0) tg (g cl C ex s H)) (hcn:∀ cl C ex s H,PT ((ao X N' scope cl C ex s H).exc E0) cnd (tc cl C ex s H)) (he:∀ cl C ex s H,PE ((ao X N' scope cl C ex s H).exc E0) elt (te cl C ex s H))
  (hs:∀ x,foldedSetIterable iter X.env x=pure x:=by intro _; rfl) (hf:X.fn x=true∨X.env.scope.names.lookup x=some .local:=by first | exact .inl rfl | exact .inr rfl | assumption) :
  PS (X.exc E0) (.Assign [.Name x pos'] (.ListComp elt [⟨tg,iter,[cnd],0⟩] scope pos) spos) (j4 (rJ n wi g tc te) (aV i)):=by
 intro pins s σ H D I h
 rw [exec_Assign_Name_used _ _ _ _ hsw]
 refine wpAny_bind (wpAny_standAt (wpAny_bind ?_))
 obtain⟨cl,hcl,c1,c2⟩:=dQ (scope:=scope) (env:=X.env) fun x hx hf=>I.ok.has x.1 (S.free x hx hf)
 show wpAny _ _ (do let _ ← comprehension (.ListComp elt [⟨tg,iter,[cnd],0⟩] scope pos) scope X.env _ (newList []) false (eval iter X.env) (some (assign (.Name x pos') X.env))) _ _ s
 refine wpAny_bind (wpAny_mono (wpAny_comprehension_free (use:=some (assign (.Name x pos') X.env)) (Q:=fun _ s'=>SP (X.exc E0) pins D .next s') rfl hs hcl S.kind S.names
  (thn (hi pins s σ H _ I h) fun v s1 h1=>thn h1 fun itv s2 h2=>?_)) (fun _ s' hq=>wpAny_pure (wpAny_pure hq)) fun _ _ e=>e)
 obtain⟨it,fp,tn,J,H2,e,I2w,T,st2,f2,cok⟩:=h2
 subst e
 have I2:=I2w.unwish
 refine wpAny_mono (mN (X:=X) (E0:=E0) (pos:=pos) (iter:=iter) (E:=(X.exc E0).xe) (Q:=fun x H1=>aV i x σ H1 D.nx) hc S c1 c2 I2 T st2 f2 hg hcn he cok) (fun acc s3 h3=>wpAny_mono h3 (fun cenv s4 h4=>codeAny_mono h4 fun r s' hr=>?_) fun _ _ z=>z) fun _ _ z=>z
 cases r with
 | error e=>exact i4 I2 f2 fr hr
 | ok f=>
  obtain⟨Dl,H',m,rfl,I',hn,⟨f0,f1,ff,f3,f4,f5⟩,q⟩:=hr
  show wpAny _ _ (assign (.Name x pos') X.env (.ref Dl)) _ _ s'
  refine wpAny_assign_Name (gu I' hN hi0 hx (v:=.ref Dl) (u:=.ref Dl) rfl (fun s'' I'' hb=>?_) hf)
  obtain⟨a,sb,ha⟩:=hb
  have hCa:cenv.locals≠a:=by
   rcases ha with rfl | ha
   ·exact f1
   ·exact fun z=>f4 x a ha z.symm
  refine⟨m,hn.sameBut sb hCa,fun h' hs'=>⟨_,H',Inv.wish ?_ _,q⟩⟩
  exact I''.turned (t':=s''.toks) (fun b o hb e=>(hs'.2 b hb).trans e) f0 f1 f3 f4 f5
end
section
variable{X:Cx}{pins:List (Addr×Obj)}{σ:St}{H:Hp}{s:Shared}
theorem Inv.trackO{a:Addr}{o:HO}(I:Inv X pins σ H s)(l:cB X pins H a)(ok:aF X.prog X.w (upd H a o) s.heap a o):Inv X pins σ (upd H a o) s:=by
 have nb:∀ b u,H b=some u→b≠a:=fun b u q=>ae q l.un
 refine⟨I.ok,I.os,I.bare,⟨I.base.keep,I.base.slot,fun b o q n hx=>?_,I.base.there,fun b xs q=>?_,fun b o xs q=>?_,fun b ps q=>?_⟩,I.loc,I.cell,?_,fun x c hc=>?_,fun p hp=>?_,fun b u q=>?_,I.len⟩
 ·have : b≠a:=by
   rintro rfl
   rcases l.new with z | z
   ·exact hx z
   ·rw [z] at q; cases q
  rw [ad this]; exact I.base.free b _ q n hx
 ·have:=I.base.tups b xs q
  rw [ad (nb b _ this)]; exact this
 ·have:=I.base.frzs b o xs q
  rw [ad (nb b _ this)]; exact this
 ·obtain⟨m,z⟩:=I.base.tbls b ps q
  exact⟨m,by rw [ad (nb b _ z)]; exact z⟩
 ·rw [ad (Ne.symm l.loc)]; exact I.free
 ·rw [ad (l.cel x c hc)]; exact I.freeC x c hc
 ·obtain⟨e1,n,ne,nf,d⟩:=I.pin p hp
  exact⟨e1,by rw [ad (l.pin p hp)]; exact n,ne,nf,d⟩
 ·by_cases hb:b=a
  ·subst hb
   rw [aa] at q; cases q
   exact ok
  ·rw [ad hb] at q
   exact(I.hok b u q).stay (fun _ _ _ z=>z) (fun c z=>by rw [ad (nb c _ z)]; exact z) fun c xs z=>by rw [ad (nb c _ z)]; exact z
theorem dS.loose{b:Addr}(f:dS X pins H b):cB X pins H b:=by
 obtain⟨f0,f1,f2,f3,f4,f5⟩:=f
 exact⟨f0,f3.imp id Heap.get?_none_of_le,f1,f4,f5⟩
end
section
variable{X:Cx}{elts:List Expr}{k:Nat}{tpos:Pos}
theorem jV:bootBuiltins "enumerate"=some (.type "enumerate"):=by decide +kernel
end
end L2
set_option maxHeartbeats 1000000
namespace L2
open PySem PySem.Spec PyProof.Rows
section
variable{X:Cx}
end
end L2
namespace HT
open PySem PySem.Spec PyProof.Rows L2
section
variable{prog:Program}{w:World}{A:Around}{E:Value→Shared→Prop}{s:Shared}
end
end HT
namespace L2
open PySem PySem.Spec PyProof.Rows
section
variable{X:Cx}
inductive rOp_eqL0I(K:PySem.W.Frag)(x:V)(y:V)(H:Hp)(Q:VK):Prop where
 | mk:∀ (a b:Addr) (xs:List V),x=.ref a→y=.ref b→SqL K H a xs→SqL K H b []→Q (.bl xs.isEmpty) H→rOp_eqL0I K x y H Q
theorem pf(hu:X.A.units<cLine):OpR X (compareOp .Eq) (fun x y H Q=>rOp_eqL0I X.K x y H Q):=by
 intro pins s σ H x y v u Q I rx ry h
 obtain⟨a,b,xs,rfl,rfl,ha,hb,q⟩:=h
 cases rx
 cases ry
 obtain⟨its,r1,p1,_⟩:=I.list ha
 obtain⟨jts,r2,p2,_⟩:=I.list hb
 cases r2
 cases r1 with
 | nil=>exact PySem.SeqAt.eq_listAt (e:=fun _=>true) p1.isList p2.isList rfl hu (fun j h1 _=>absurd h1 (by simp)) ⟨.bl true,H,I.tok _,rfl,q⟩
 | cons r t=>exact PySem.SeqAt.eq_list_lengthsAt p1.isList p2.isList (by simp) hu ⟨.bl false,H,I.tok _,rfl,q⟩
end
abbrev CK:=Str×List Int
section
variable{P:Program}{w:World}
variable{A:Around}{E:Value→Shared→Prop}{s:Shared}
end
def Raw(h:Heap)(d:Addr)(es:Array DictEntry)(ep:Nat):Prop:=∃ o,h.get? d=some o∧o.ExactDict∧o.data=.dict es ep
theorem Raw.typeIs{s:Shared}{d:Addr}{es:Array DictEntry}{ep:Nat}(m:Raw s.heap d es ep):s.TypeIs (.ref d) "dict":=let ⟨o,ho,hc,_⟩:=m; ⟨o,ho,hc.1⟩
section
variable{P:Program}{w:World}{A:Around}{E:Value→Shared→Prop}{s:Shared}{d it:Addr}{es:Array DictEntry}{ep i:Nat}
theorem sK{Q:Value→Shared→Prop}(hd:(d==sysModules)=false)(hm:Raw s.heap d es ep)
  (hQ:Q (.ref s.heap.objs.size) {s with heap:=s.heap.push {cls:=.type "dict_keyiterator",data:=.fields #[.ref d,.int 0 0,.int es.size 0,.int ep 0]}}):wpAny (model P w) A (pyIter (.ref d)) Q E s:=by
 have hT:=hm.typeIs
 obtain⟨o,ho,hc,hdat⟩:=hm
 refine wpAny_pyIter_slot hT F.slot_dict_iter (wpAny_call_entry F.slot_dict_iter hT F.entry_dict_iter ?_ (F.args_dict_iter_1 _))
 unfold Builtin.«dict.__iter__»
 refine wpAny_bind ?_
 unfold Builtin.Dict.dictSlotNone
 refine wpAny_bind (wpAny_notOrdered_dict hT ?_)
 show wpAny _ _ (pure (Value.ref d)) _ _ s
 refine wpAny_pure ?_
 show wpAny _ _ (Builtin.Dict.showsAll d>>=_) _ _ s
 unfold Builtin.Dict.showsAll
 rw [if_neg (by rw [hd]; exact Bool.false_ne_true)]
 refine wpAny_bind (wpAny_pure (wpAny_bind (wpAny_dictEntries ho hdat (wpAny_bind (wpAny_dictEpoch ho hdat ?_)))))
 refine wpAny_bind (wpAny_newObj_type (wpAny_pure ⟨_,rfl,"dict_keyiterator",_,⟨_,Heap.get?_push_size _ rfl,rfl⟩,F.slot_dict_keyiterator_next.lookup,?_⟩))
 simpa [rawInt] using hQ
theorem sM{Q:Option Value→Shared→Prop}(hit:s.heap.IsKeyIter it d i es.size ep)(hm:Raw s.heap d es ep)(hlt:i<es.size)
  (hQ:∀ h',h'.IsKeyIter it d (i+1) es.size ep→Heap.SameBut it s.heap h'→Q (some es[i].key) {s with heap:=h'}):wpAny (model P w) A (pyNext (.ref it)) Q E s:=by
 obtain⟨o,ho,hc,hd⟩:=id hit
 obtain⟨od,hod,hcd,hdd⟩:=id hm
 unfold pyNext
 refine wpAny_bind (wpAny_attempt (wpAny_callSpecial?_slot (name:=Str.ofString "__next__") hit.typeIs F.slot_dict_keyiterator_next (wpAny_call_entry F.slot_dict_keyiterator_next hit.typeIs F.entry_dict_keyiterator_next ?_ (F.args_dict_keyiterator_next_1 _))))
 refine wpAny_bind (wpAny_pure (wpAny_bind (wpAny_bind ?_)))
 first | refine wpAny_bind (wpAny_typeNameOfWhole_keyiter hit.typeIs (wpAny_pure ?_)) | refine wpAny_bind (wpAny_typeNameOf_keyiter hit.typeIs (wpAny_pure ?_))
 refine wpAny_bind (wpAny_fieldsOf ho hd ?_)
 have hown:Builtin.Dict_items.ownsTuple "dict_keyiterator"=false:=by decide
 simp only [hown,Bool.false_eq_true,if_false]
 show wpAny _ _ (if (Value.ref d==Value.none)=true then _ else _) _ _ s
 rw [if_neg (show ¬ ((Value.ref d==Value.none)=true) from Bool.false_ne_true)]
 refine wpAny_bind (wpAny_pure (wpAny_bind (wpAny_dictEntries hod hdd ?_)))
 rw [if_neg (by simp)]
 refine wpAny_bind (wpAny_pure (wpAny_bind (wpAny_dictEpoch hod hdd ?_)))
 rw [if_neg (by simp)]
 refine wpAny_pure ?_
 simp only [show ¬ ((i:Int)<0) from by omega,if_false,Int.toNat_natCast,Array.getElem?_eq_getElem hlt]
 refine wpAny_bind ?_
 first | refine wpAny_bind (wpAny_typeNameOfWhole_keyiter hit.typeIs (wpAny_pure ?_)) | refine wpAny_bind (wpAny_typeNameOf_keyiter hit.typeIs (wpAny_pure ?_))
 refine wpAny_bind (wpAny_isOneOf_keyiter hit.typeIs ?_)
 show wpAny _ _ (setField (.ref it) 1 (rawInt ((i:Int)+1))>>=_) _ _ s
 refine wpAny_bind (wpAny_setField ho hd (by simp) ?_)
 have hit':(s.heap.update it (Obj.mapFields (·.setIfInBounds 1 (rawInt ((i:Int)+1))))).IsKeyIter it d (i+1) es.size ep:=
  ⟨_,Heap.get?_update_self _ ho (Obj.isFreed_of_fields (Obj.data_mapFields hd _)),(Obj.cls_mapFields ..).trans hc,by rw [Obj.data_mapFields hd]; simp [rawInt]⟩
 refine wpAny_bind (wpAny_holding ?_)
 refine wpAny_bind (wpAny_isOneOf_keyiter (s:={s with heap:=s.heap.update it (Obj.mapFields (·.setIfInBounds 1 (rawInt ((i:Int)+1))))}) hit'.typeIs ?_)
 show wpAny _ _ (pure es[i].key) _ _ _
 exact wpAny_pure (wpAny_pure ⟨_,rfl,wpAny_pure (hQ _ hit' (Heap.SameBut.update ..))⟩)
theorem vi{Q:Option Value→Shared→Prop}(hh:A.handled=none)(hit:s.heap.IsKeyIter it d es.size es.size ep)(hm:Raw s.heap d es ep)
  (hQ:∀ h',Heap.ExtBut it s.heap h'→Q none {s with heap:=h'}):wpAny (model P w) A (pyNext (.ref it)) Q E s:=by
 obtain⟨o,ho,hc,hd⟩:=id hit
 obtain⟨od,hod,hcd,hdd⟩:=id hm
 unfold pyNext
 refine wpAny_bind (wpAny_attempt (wpAny_callSpecial?_slot (name:=Str.ofString "__next__") hit.typeIs F.slot_dict_keyiterator_next (wpAny_call_entry F.slot_dict_keyiterator_next hit.typeIs F.entry_dict_keyiterator_next ?_ (F.args_dict_keyiterator_next_1 _))))
 refine wpAny_bind (wpAny_pure (wpAny_bind (wpAny_bind ?_)))
 first | refine wpAny_bind (wpAny_typeNameOfWhole_keyiter hit.typeIs (wpAny_pure ?_)) | refine wpAny_bind (wpAny_typeNameOf_keyiter hit.typeIs (wpAny_pure ?_))
 refine wpAny_bind (wpAny_fieldsOf ho hd ?_)
 have hown:Builtin.Dict_items.ownsTuple "dict_keyiterator"=false:=by decide
 simp only [hown,Bool.false_eq_true,if_false]
 show wpAny _ _ (if (Value.ref d==Value.none)=true then _ else _) _ _ s
 rw [if_neg (show ¬ ((Value.ref d==Value.none)=true) from Bool.false_ne_true)]
 refine wpAny_bind (wpAny_pure (wpAny_bind (wpAny_dictEntries hod hdd ?_)))
 rw [if_neg (by simp)]
 refine wpAny_bind (wpAny_pure (wpAny_bind (wpAny_dictEpoch hod hdd ?_)))
 rw [if_neg (by simp)]
 refine wpAny_pure ?_
 simp only [show ¬ ((es.size:Int)<0) from by omega,if_false,Int.toNat_natCast,Array.getElem?_eq_none (Nat.le_refl es.size)]
 refine wpAny_bind ?_
 first | refine wpAny_bind (wpAny_typeNameOfWhole_keyiter hit.typeIs (wpAny_pure ?_)) | refine wpAny_bind (wpAny_typeNameOf_keyiter hit.typeIs (wpAny_pure ?_))
 show wpAny _ _ (setField (.ref it) 0 .none>>=_) _ _ s
 refine wpAny_bind (wpAny_setField ho hd (by simp) ?_)
 show wpAny _ _ (newExc (.type "StopIteration") []>>=_) _ _ _
 refine wpAny_bind ?_
 simp only [newExc,newTuple]
 refine wpAny_bind (wpAny_newObj_type ?_ (by size_fits))
 refine wpAny_bind (m:=firstArgMember _ _) (wpAny_of_eq (a:=Value.none) (by first | rfl | (simp only [firstArgMember]; rfl)) ?_)
 refine wpAny_newObj_type ?_ (by size_fits)
 simp only [raiseNew]
 refine wpAny_bind (wpAny_handled ?_)
 rw [show A.in1.handled=none from hh]
 refine wpAny_bind (wpAny_pure (wpAny_throw ?_))
 refine wpAny_bind (wpAny_isInstance (T:="StopIteration") (b:=true) ⟨_,Heap.get?_push_size _ rfl,rfl⟩ isSubtype_stop ?_)
 exact wpAny_pure (hQ _ (((Heap.SameBut.update ..).extBut.push _).push _))
end
abbrev CD:=List (CK×Addr×V)
section
variable{P:Program}{w:World}{H:Hp}{h:Heap}{a:Addr}
end
section
variable{X:Cx}{pins:List (Addr×Obj)}{σ:St}{H:Hp}{s:Shared}{a q:Addr}{cd:CD}{k:CK}{v:V}{r:Value}{A:Around}{E:Value→Shared→Prop}
end
section
variable{X:Cx}{o i e value:Expr}{pos pos' tpos:Pos}{td ty tv:TE}
end
structure uW(P:Program)(w:World)(i l:Addr)(xs:Array Value)(It:Nat→Heap→Prop):Prop where
 item:∀ (A:Around) (s:Shared) (k:Nat) (x:Value) (Q:Value→Shared→Prop) (E:Value→Shared→Prop),It k s.heap→xs[k]? = some x→
  (∀ h',It (k+1) h'→Heap.SameBut i s.heap h'→Q x {s with heap:=h'})→wpAny (model P w) A (Builtin.SmallTypes.nextOf (.ref i)) Q E s
 fin:∀ (A:Around) (s:Shared) (k:Nat) (Q:Value→Shared→Prop) (E:Value→Shared→Prop),A.handled=none→It k s.heap→xs[k]? = none→
  (∀ h' e,Heap.ExtBut i s.heap h'→(∃ o,h'.get? e=some o∧o.cls=.type "StopIteration")→E (.ref e) {s with heap:=h'})→wpAny (model P w) A (Builtin.SmallTypes.nextOf (.ref i)) Q E s
 keep:∀ (h h':Heap) (k:Nat),It k h→(∀ b,b=i∨b=l→∀ o,h.get? b=some o→h'.get? b=some o)→It k h'
section
variable{P:Program}{w:World}
theorem jS(i l:Addr)(xs:Array Value)(hne:l≠i):uW P w i l xs fun k h=>h.IsListIter i l k∧h.IsList l xs where
 item:=fun A s k x Q E st hx hQ=>wpAny_nextOf_list_item st.1 st.2 hx fun h' it' hs=>hQ h' ⟨it',st.2.extBut hs.extBut hne⟩ hs
 fin:=fun A s k Q E hh st hx hE=>wpAny_nextOf_list_end hh st.1 st.2 hx hE
 keep:=fun h h' k st hk=>⟨st.1.at fun o e=>hk i (.inl rfl) o e,st.2.at fun o e=>hk l (.inr rfl) o e⟩
section
variable{A:Around}{E:Value→Shared→Prop}{s:Shared}
theorem rA{it t:Addr}{k:Nat}{items:Array Value}{x:Value}{Q:Value→Shared→Prop}(hit:s.heap.IsTupleIter it t k)(ht:s.heap.IsTuple t items)(hx:items[k]? = some x)
  (hQ:∀ h',h'.IsTupleIter it t (k+1)→Heap.SameBut it s.heap h'→Q x {s with heap:=h'}):wpAny (model P w) A (Builtin.SmallTypes.nextOf (.ref it)) Q E s:=by
 obtain⟨o,ho,hc,hd⟩:=id hit
 obtain⟨ol,hol,_,nl,hdl⟩:=ht
 unfold Builtin.SmallTypes.nextOf
 refine wpAny_bind (wpAny_callSpecial?_slot (name:=Str.ofString "__next__") hit.typeIs F.slot_tuple_iterator_next (wpAny_call_entry F.slot_tuple_iterator_next hit.typeIs F.entry_tuple_iterator_next ?_ (F.args_tuple_iterator_next_1 _)))
 show wpAny _ _ (field (.ref it) 0>>=_) _ _ s
 refine wpAny_bind (wpAny_field ho hd (x:=.ref t) rfl ?_)
 show wpAny _ _ (if (Value.ref t==Value.none)=true then _ else _) _ _ s
 rw [if_neg (show ¬ ((Value.ref t==Value.none)=true) from Bool.false_ne_true)]
 show wpAny _ _ (field (.ref it) 1>>=_) _ _ s
 refine wpAny_bind (wpAny_field ho hd (x:=.int k 0) rfl ?_)
 show wpAny _ _ (seqItems? (.ref t)>>=_) _ _ s
 refine wpAny_bind (wpAny_seqItems hol hdl ?_)
 simp only [Int.toNat_natCast,hx]
 refine wpAny_bind (wpAny_setField ho hd (by simp) (wpAny_pure ⟨x,rfl,wpAny_pure (hQ _ ⟨_,Heap.get?_update_self _ ho (Obj.isFreed_of_fields (Obj.data_mapFields hd _)),(Obj.cls_mapFields ..).trans hc,?_⟩ (Heap.SameBut.update ..))⟩))
 rw [Obj.data_mapFields hd]; simp [rawInt]
theorem uZ{it t:Addr}{k:Nat}{items:Array Value}{Q:Value→Shared→Prop}(hh:A.handled=none)(hit:s.heap.IsTupleIter it t k)(ht:s.heap.IsTuple t items)(hx:items[k]? = none)
  (hE:∀ h' e,Heap.ExtBut it s.heap h'→(∃ o,h'.get? e=some o∧o.cls=.type "StopIteration")→E (.ref e) {s with heap:=h'}):wpAny (model P w) A (Builtin.SmallTypes.nextOf (.ref it)) Q E s:=by
 obtain⟨o,ho,hc,hd⟩:=id hit
 obtain⟨ol,hol,_,nl,hdl⟩:=ht
 unfold Builtin.SmallTypes.nextOf
 refine wpAny_bind (wpAny_callSpecial?_slot (name:=Str.ofString "__next__") hit.typeIs F.slot_tuple_iterator_next (wpAny_call_entry F.slot_tuple_iterator_next hit.typeIs F.entry_tuple_iterator_next ?_ (F.args_tuple_iterator_next_1 _)))
 show wpAny _ _ (field (.ref it) 0>>=_) _ _ s
 refine wpAny_bind (wpAny_field ho hd (x:=.ref t) rfl ?_)
 show wpAny _ _ (if (Value.ref t==Value.none)=true then _ else _) _ _ s
 rw [if_neg (show ¬ ((Value.ref t==Value.none)=true) from Bool.false_ne_true)]
 show wpAny _ _ (field (.ref it) 1>>=_) _ _ s
 refine wpAny_bind (wpAny_field ho hd (x:=.int k 0) rfl ?_)
 show wpAny _ _ (seqItems? (.ref t)>>=_) _ _ s
 refine wpAny_bind (wpAny_seqItems hol hdl ?_)
 simp only [Int.toNat_natCast,hx]
 refine wpAny_bind (wpAny_rule (wpAny_bind (wpAny_setField ho hd (by simp) ?_)))
 show wpAny _ _ (newExc (.type "StopIteration") []>>=_) _ _ _
 refine wpAny_bind ?_
 simp only [newExc,newTuple]
 refine wpAny_bind (wpAny_newObj_type ?_ (by size_fits))
 refine wpAny_bind (m:=firstArgMember _ _) (wpAny_of_eq (a:=Value.none) (by first | rfl | (simp only [firstArgMember]; rfl)) ?_)
 refine wpAny_newObj_type ?_ (by size_fits)
 simp only [raiseNew]
 refine wpAny_bind (wpAny_handled ?_)
 rw [show A.in1.handled=none from hh]
 refine wpAny_bind (wpAny_pure (wpAny_throw ?_))
 exact hE _ _ (((Heap.SameBut.update ..).extBut.push _).push _) ⟨_,Heap.get?_push_size _ rfl,rfl⟩
end
theorem dD(i l:Addr)(xs:Array Value)(hne:l≠i):uW P w i l xs fun k h=>h.IsTupleIter i l k∧h.IsTuple l xs where
 item:=fun A s k x Q E st hx hQ=>rA st.1 st.2 hx fun h' it' hs=>hQ h' ⟨it',st.2.extBut hs.extBut hne⟩ hs
 fin:=fun A s k Q E hh st hx hE=>uZ hh st.1 st.2 hx hE
 keep:=fun h h' k st hk=>⟨let ⟨o,ho,r⟩:=st.1; ⟨o,hk i (.inl rfl) o ho,r⟩,let ⟨o,ho,r⟩:=st.2; ⟨o,hk l (.inr rfl) o ho,r⟩⟩
end
abbrev ZAt(h:Heap)(z TI TO:Addr)(f0:Value)(f1:Bool):Prop:=
 h.get? z=some {cls:=.type "zip",dict:=none,data:=.fields #[f0,.bool f1,.bool false,.ref TI,.ref TO],slots:=#[]}
structure ZSt(It1 It2:Nat→Heap→Prop)(z TI TO i1 i2:Addr)(k:Nat)(h:Heap):Prop where
 z:∃ f0 f1,ZAt h z TI TO f0 f1∧(f0=.none∨∃ (T:Addr) (o:Obj),f0=rawInt (T:Int)∧h.get? T=some o∧T≠z∧T≠TO∧T≠i1∧T≠i2)
 ti:IsPair h TI (.ref i1) (.ref i2)
 to:∃ a b,IsPair h TO a b
 a:It1 k h
 b:It2 k h
section
variable{P:Program}{w:World}{A:Around}{E:Value→Shared→Prop}{s:Shared}{It1 It2:Nat→Heap→Prop}{z TI TO i1 i2 l1 l2:Addr}{xs ys:Array Value}{k:Nat}{x y:Value}
theorem yY{Q:Option Value→Shared→Prop}(hh:A.handled=none)(D:ZipApart z TI TO i1 i2 l1 l2)(F1:uW P w i1 l1 xs It1)(st:ZSt It1 It2 z TI TO i1 i2 k s.heap)(hx:xs[k]? = none)
  (hQ:∀ h',(∀ c o,c≠z→c≠TO→c≠i1→c≠i2→s.heap.get? c=some o→h'.get? c=some o)→Q none {s with heap:=h'}) :
  wpAny (model P w) A (pyNext (.ref z)) Q E s:=by
 obtain⟨⟨f0,f1,hz,hf⟩,hTI,⟨a,b,hTO⟩,h1,h2⟩:=st
 have hT:s.TypeIs (.ref z) "zip":=⟨_,hz,rfl⟩
 unfold pyNext
 refine wpAny_bind (wpAny_attempt (wpAny_callSpecial?_slot (name:=Str.ofString "__next__") hT F.slot_zip_next (wpAny_call_entry F.slot_zip_next hT F.entry_zip_next ?_ (F.args_zip_next_1 _))))
 refine wpAny_mono (Q:=fun _ _=>False) (E:=fun e s'=>∃ h' a,e=.ref a∧s'={s with heap:=h'}∧(∀ c o,c≠z→c≠TO→c≠i1→c≠i2→s.heap.get? c=some o→h'.get? c=some o)∧∃ o,h'.get? a=some o∧o.cls=.type "StopIteration") ?_ (fun _ _ q=>q.elim) ?_
 ·show wpAny _ _ (field (.ref z) 2>>=_) _ _ _
  refine wpAny_bind (wpAny_field hz rfl (x:=.bool false) rfl ?_)
  show wpAny _ _ (field (.ref z) 3>>=_) _ _ _
  refine wpAny_bind (wpAny_field hz rfl (x:=.ref TI) rfl (wpAny_bind (wpAny_seqItems hTI rfl ?_)))
  show wpAny _ _ (Builtin.SmallTypes.ownedTupleIsFree (.ref z)>>=_) _ _ _
  refine wpAny_bind ?_
  rcases hf with rfl | ⟨T,oT,rfl,hT0,tz,tTO,t1,t2⟩
  ·unfold Builtin.SmallTypes.ownedTupleIsFree
   refine wpAny_bind (wpAny_field hz rfl (x:=.none) rfl (wpAny_pure ?_))
   simp only [if_true]
   refine wpAny_bind (wpAny_rule ?_)
   refine wpAny_bind (wpAny_field hz rfl (x:=.ref TO) rfl ?_)
   refine wpAny_bind (wpAny_setField_rec hz (by simp) fun h₁ hz₁ hs₁=>?_)
   replace hz₁:ZAt h₁ z TI TO .ellipsis f1:=hz₁
   refine wpAny_bind ?_
   simp only [List.zipIdx_cons,List.zipIdx_nil,List.forIn_cons,List.forIn_nil]
   have kp1:∀ c o,c≠z→s.heap.get? c=some o→h₁.get? c=some o:=fun c o hc e=>hs₁.extBut c o hc e
   have a1:It1 k h₁:=F1.keep _ _ _ h1 fun b hb o e=>kp1 b o (by rcases hb with rfl | rfl; exact D.i1z; exact D.l1z) e
   refine wpAny_bind (wpAny_bind (wpAny_onRaise ?_))
   show wpAny _ _ (Builtin.SmallTypes.nextOf (.ref i1)>>=_) _ _ _
   refine wpAny_bind (F1.fin _ {s with heap:=h₁} k _ _ (by exact hh) a1 hx fun h₂ e hs₂ he=>?_)
   obtain⟨oe,hoe,hce⟩:=he
   have hz₂:ZAt h₂ z TI TO .ellipsis f1:=hs₂ _ _ D.i1z.symm hz₁
   have hez:e≠z:=fun q=>by subst q; rw [hz₂] at hoe; cases hoe; simp at hce
   refine wpAny_setField_rec hz₂ (by simp) fun h₃ _ hs₃=>⟨h₃,e,rfl,rfl,fun c o c1 _ c3 _ q=>hs₃.extBut _ _ c1 (hs₂ _ _ c3 (kp1 _ _ c1 q)),oe,hs₃.extBut _ _ hez hoe,hce⟩
  ·refine wpAny_mono (Q:=fun b s₁=>b=false∧∃ h₁,s₁={s with heap:=h₁}∧ZAt h₁ z TI TO (rawInt (T:Int)) true∧Heap.SameBut z s.heap h₁) ?_ ?_ fun _ _ q=>q
   ·unfold Builtin.SmallTypes.ownedTupleIsFree
    refine wpAny_bind (wpAny_field hz rfl (x:=rawInt (T:Int)) rfl ?_)
    show wpAny _ _ (loadIfAlive ((T:Int).toNat)>>=_) _ _ _
    rw [Int.toNat_natCast]
    refine wpAny_bind (PySem.W.kdx_alive hT0 ?_)
    simp only [Option.isNone_some,Bool.false_eq_true,if_false]
    refine wpAny_bind (wpAny_field hz rfl (x:=.bool f1) rfl ?_)
    cases f1 with
    | true=>
     rw [if_neg (show ¬ ((Value.bool true != Value.bool true)=true) from Bool.false_ne_true)]
     exact wpAny_pure ⟨rfl,_,rfl,hz,Heap.SameBut.refl _ _⟩
    | false=>
     rw [if_pos (show (Value.bool false != Value.bool true)=true from rfl)]
     refine wpAny_bind (wpAny_setField_rec hz (by simp) fun h₁ hz₁ hs₁=>?_)
     exact wpAny_pure ⟨rfl,_,rfl,hz₁,hs₁⟩
   ·rintro b' s₁ ⟨rfl,h₁,rfl,hz₁,hs₁⟩
    simp only [Bool.false_eq_true,if_false]
    have kp1:∀ c o,c≠z→s.heap.get? c=some o→h₁.get? c=some o:=fun c o hc e=>hs₁.extBut c o hc e
    have a1:It1 k h₁:=F1.keep _ _ _ h1 fun b hb o e=>kp1 b o (by rcases hb with rfl | rfl; exact D.i1z; exact D.l1z) e
    refine wpAny_bind ?_
    rw [← Array.forIn_toList]
    simp only [List.forIn_cons,List.forIn_nil]
    refine wpAny_bind (wpAny_bind (wpAny_holding ?_))
    show wpAny _ _ (Builtin.SmallTypes.nextOf (.ref i1)>>=_) _ _ _
    refine wpAny_bind (F1.fin _ {s with heap:=h₁} k _ _ (by exact hh) a1 hx fun h₂ e hs₂ he=>?_)
    exact⟨h₂,e,rfl,rfl,fun c o c1 _ c3 _ q=>hs₂ _ _ c3 (kp1 _ _ c1 q),he⟩
 ·rintro e s' ⟨h',c,rfl,rfl,hk,o,ho,hc⟩
  refine wpAny_bind (wpAny_isInstance (T:="StopIteration") (b:=true) ⟨o,ho,hc⟩ isSubtype_stop ?_)
  exact wpAny_pure (hQ _ hk)
end
section
variable{P:Program}{w:World}{A:Around}{R:Result→Shared→Prop}{It1 It2:Nat→Heap→Prop}{z TI TO i1 i2 l1 l2 d:Addr}{xs ys:Array Value}{ws:List Str}
end
abbrev zt2(h:Heap)(l1 l2:Addr):Heap:=(zipH1 h l1).push {cls:=.type "tuple_iterator",data:=.fields #[.ref l2,.int 0 0]}
abbrev zt3(h:Heap)(l1 l2:Addr):Heap:=(zt2 h l1 l2).push {cls:=.type "tuple",data:=.seq #[.ref h.objs.size,.ref (zipH1 h l1).objs.size]}
abbrev zt4(h:Heap)(l1 l2:Addr):Heap:=(zt3 h l1 l2).push {cls:=.type "tuple",data:=.seq #[.none,.none]}
abbrev zt5(h:Heap)(l1 l2:Addr):Heap:=(zt4 h l1 l2).push {cls:=.type "zip",data:=.fields #[.none,.bool false,.bool false,.ref (zt2 h l1 l2).objs.size,.ref (zt3 h l1 l2).objs.size]}
theorem xC(l1 l2:Addr)(xs ys:Array Value):
  Meets (Builtin.«zip.__new__» ⟨[.type "zip",.ref l1,.ref l2],[]⟩) (fun _ R s=>s.heap.IsList l1 xs∧s.heap.IsTuple l2 ys∧R (.ok (.ret (.ref (zt4 s.heap l1 l2).objs.size))) {s with heap:=zt5 s.heap l1 l2}):=
 .of_wp fun prog w A R s h=>by
  obtain⟨hp,g,d,tk,os⟩:=s; obtain⟨hl1,hl2,h⟩:=h
  have hsub:=sub_zip
  have hL1:Heap.IsList (Shared.heap ⟨hp,g,d,tk,os⟩) l1 xs:=hl1
  have hL2:Heap.IsTuple (Shared.heap ⟨hp.push {cls:=.type "list_iterator",data:=.fields #[.ref l1,.int 0 0]},g,d,tk,os⟩) l2 ys:=Heap.IsTuple.push hl2 _
  wp_walk using wpAny_pyIter_list hL1,wpAny_pyIter_tuple hL2
  exact⟨_,rfl,h⟩
section
variable{P:Program}{w:World}{A:Around}{E:Value→Shared→Prop}{s:Shared}{l1 l2:Addr}{xs ys:Array Value}
theorem qT{Q:Value→Shared→Prop}(hl1:s.heap.IsList l1 xs)(hl2:s.heap.IsTuple l2 ys)
  (h:∀ h',IsZip h' (s.heap.objs.size+4) (s.heap.objs.size+2) (s.heap.objs.size+3) .none→IsPair h' (s.heap.objs.size+2) (.ref s.heap.objs.size) (.ref (s.heap.objs.size+1))→IsPair h' (s.heap.objs.size+3) .none .none→
   h'.IsListIter s.heap.objs.size l1 0→h'.IsTupleIter (s.heap.objs.size+1) l2 0→(∀ c o,s.heap.get? c=some o→h'.get? c=some o)→Q (.ref (s.heap.objs.size+4)) {s with heap:=h'}) :
  wpAny (model P w) A (call (.type "zip") [.ref l1,.ref l2]) Q E s:=by
 refine callType_new F.called_zip (by decide) (F.typeCall_zip_2 _ _) (F.newCall_zip_2 _ _) (fun obj=>F.args_object_init_3 obj _ _) F.entry_zip_new (xC l1 l2 xs ys) ⟨hl1,hl2,?_⟩
 have z1:(zipH1 s.heap l1).objs.size=s.heap.objs.size+1:=Heap.size_push ..
 have z2:(zt2 s.heap l1 l2).objs.size=s.heap.objs.size+2:=by rw [Heap.size_push,z1]
 have z3:(zt3 s.heap l1 l2).objs.size=s.heap.objs.size+3:=by rw [Heap.size_push,z2]
 have z4:(zt4 s.heap l1 l2).objs.size=s.heap.objs.size+4:=by rw [Heap.size_push,z3]
 have g5:(zt5 s.heap l1 l2).get? (zt4 s.heap l1 l2).objs.size=some _:=Heap.get?_push_size _ rfl
 have g4:(zt5 s.heap l1 l2).get? (zt3 s.heap l1 l2).objs.size=some _:=Heap.get?_push_of_some _ (Heap.get?_push_size _ rfl)
 have g3:(zt5 s.heap l1 l2).get? (zt2 s.heap l1 l2).objs.size=some _:=Heap.get?_push_of_some _ (Heap.get?_push_of_some _ (Heap.get?_push_size _ rfl))
 have g2:(zt5 s.heap l1 l2).get? (zipH1 s.heap l1).objs.size=some _:=Heap.get?_push_of_some _ (Heap.get?_push_of_some _ (Heap.get?_push_of_some _ (Heap.get?_push_size _ rfl)))
 have g1:(zt5 s.heap l1 l2).get? s.heap.objs.size=some _:=Heap.get?_push_of_some _ (Heap.get?_push_of_some _ (Heap.get?_push_of_some _ (Heap.get?_push_of_some _ (Heap.get?_push_size _ rfl))))
 show _∧_
 rw [z2,z3,z4] at g5
 rw [z1,z2] at g3
 rw [z3] at g4
 rw [z1] at g2
 rw [z4]
 exact⟨⟨_,g5,rfl⟩,h _ g5 g3 g4 ⟨_,g1,rfl,rfl⟩ ⟨_,g2,rfl,rfl⟩ fun c o x=>Heap.get?_push_of_some _ (Heap.get?_push_of_some _ (Heap.get?_push_of_some _ (Heap.get?_push_of_some _ (Heap.get?_push_of_some _ x))))⟩
end
theorem yN:bootBuiltins "zip"=some (.type "zip"):=by decide +kernel
end L2
set_option maxHeartbeats 4000000
namespace L2
open PySem PySem.Spec PyProof.Rows
section
variable{P:Program}{w:World}{A:Around}{R:Result→Shared→Prop}{s:Shared}{elt tg iter tg2 iter2:Expr}{ifs:List Expr}{scope:Scope}{pos:Pos}{it acc:Value}{env:Env}
end
section
variable{X:Cx}{n:Nat}{N':List Str}{scope:Scope}{elt tg iter tg2 iter2:Expr}{ifs:List Expr}{pos:Pos}{pins:List (Addr×Obj)}{σ:St}{H2:Hp}{s2:Shared}{cl:List (Str×Addr)}
end
end L2
set_option maxHeartbeats 1000000
namespace L2
open PySem PySem.Spec PyProof.Rows
section
variable{X:Cx}
end
end L2
set_option maxHeartbeats 4000000
namespace L2
open PySem PySem.Spec PyProof.Rows
theorem dP{prog:Program}{w:World}{A:Around}{R:Result→Shared→Prop}{s:Shared}{kx vx target iter:Expr}{scope:Scope}{pos:Pos}{it:Value}{D:Addr}{env:Env}(I:Nat→Shared→Prop)
  (turn:∀ n s,I n s→wpAny (model prog w) A (pyNext it) (fun r s1=>match r with
   | none=>R (.ok .next) s1
   | some v=>wpAny (model prog w) A (letOwnedTupleGo target it v) (fun _ s1'=>wpAny (model prog w) A (assign target env v) (fun _ s2=>
     wpAny (model prog w) A (eval kx env) (fun kv s4=>wpAny (model prog w) A (eval vx env) (fun vv s5=>
       wpAny (model prog w) A (dictSet D kv vv) (fun _ s6=>∃ m,m<n∧I m s6) (notedBy (model prog w) A env fun e s'=>R (.error e) s') s5) (notedBy (model prog w) A env fun e s'=>R (.error e) s') s4) (notedBy (model prog w) A env fun e s'=>R (.error e) s') s2)
     (notedBy (model prog w) A env fun e s'=>R (.error e) s') s1') (notedBy (model prog w) A env fun e s'=>R (.error e) s') s1) (notedBy (model prog w) A env fun e s'=>R (.error e) s') s)
  (n:Nat) (h:I n s):codeAny (model prog w) A (.compLoop (.DictComp kx vx [⟨target,iter,[],0⟩] scope pos) 0 it (.ref D) env) R s:=by
 refine codeAny_loop rfl I (fun n s hI=>?_) n h
 show wpAny _ A ((compTurn (.DictComp kx vx [⟨target,iter,[],0⟩] scope pos) 0 it (.ref D) env).onRaise (fun x=>do noteFrame x env; theTreesLotGoes x)) _ _ s
 refine wpAny_noted ?_
 rw [compTurn_dict]
 refine wpAny_bind (wpAny_standAt (wpAny_bind (wpAny_mono (turn n s hI) (fun r s1 h1=>?_) fun _ _ h'=>h')))
 cases r with
 | none=>exact wpAny_pure h1
 | some v=>
  refine wpAny_bind (wpAny_mono h1 (fun _ s1' h1'=>?_) fun _ _ h'=>h')
  refine wpAny_bind (wpAny_mono h1' (fun _ s2 h2=>?_) fun _ _ h'=>h')
  refine wpAny_bind (wpAny_pure ?_)
  exact wpAny_bind (wpAny_bind (wpAny_mono h2 (fun kv s4 h4=>wpAny_bind (wpAny_holding (wpAny_mono h4 (fun vv s5 h5=>wpAny_bind (wpAny_standAt (wpAny_holding (wpAny_mono h5 (fun _ s6 h6=>wpAny_pure ⟨rfl,h6⟩) fun _ _ h'=>h')))) fun _ _ h'=>h'))) fun _ _ h'=>h'))
def eV(n:Nat)(J:It)(g:TG)(tk tv:TE)(σ:St)(H:Hp)(Q:VK):Prop:=
 ∃ W:Nat→Nat→List (Key×V)→St→Hp→Prop,(∃ m,W 0 m [] (List.replicate n none++σ) H)∧∀ i m kvs σ' H,W i m kvs σ' H→
  (J.stop i H∧∀ D,H D=none→Q (.ref D) (upd H D (.dK kvs)))∨
  (J.go i H∧kvs.length<sizeLine∧∀ x H',J.yld i H x H'→g x σ' H' fun σ2 H2=>tk σ2 H2 fun y H3=>tv σ2 H3 fun v H4=>∃ k,y=kV k∧∃ m',m'<m∧W (i+1) m' (putK kvs k v) σ2 H4)
def rK(n:Nat)(wi:TI)(g:aA TG)(tk tv:aA TE):TE:=fun σ H Q=>wi σ H fun J H1=>∀ cl C ex s Hc,eV n J (g cl C ex s Hc) (tk cl C ex s Hc) (tv cl C ex s Hc) σ H1 Q
section
variable{X:Cx}{n:Nat}{N':List Str}{scope:Scope}{kx vx tg iter:Expr}{pos:Pos}{pins:List (Addr×Obj)}{σ:St}{H2:Hp}{s2:Shared}{cl:List (Str×Addr)}
theorem qS{C D:Addr}{fp:List Addr}{s':Shared}{od:Obj}(hnc:∀ v,od.data≠.cell v)(S:aM n N' X scope)(c1:∀ x c,cl.lookup x=some c→X.env.cells.lookup x=some c)(c2:∀ x∈scope.names,x.2=.free→∃ c,cl.lookup x.1=some c)
  (I2:Inv X pins σ H2 s2) (f2:∀ b∈fp,dS X pins H2 b) (fl:∀ b∈fp,@LT.lt Nat _ b s2.heap.objs.size) (hD:@Eq Nat D s2.heap.objs.size) (hC:@Eq Nat C (s2.heap.objs.size+1))
  (ho:s'.os=s2.os) (hg:s'.gens=s2.gens) (old:∀ b o,s2.heap.get? b=some o→s'.heap.get? b=some o) (hns:∃ m,s'.heap.Ns C m) (hd:s'.heap.get? D=some od) :
  Inv (ao X N' scope cl C fp s2 H2) [(D,od)] (List.replicate n none++σ) H2 s':=by
 have frl:∀ b∈frs X.stack,@LT.lt Nat _ b s2.heap.objs.size:=fun b hb=>by
  obtain⟨_,o,ho,_⟩:=I2.stack.mem hb
  exact Heap.lt_size ho
 have celll:∀ x c,cl.lookup x=some c→c<s2.heap.objs.size:=fun x c e=>by
  obtain⟨v,q⟩:=I2.cell x c (c1 x c e)
  exact q.lt
 have kOf:∀ x,(ao X N' scope cl C fp s2 H2).env.kindOf x=(scope.names.lookup x).map fun k=>if (k==NameKind.free&&X.env.scope.kind==.function&&X.env.kindOf x==some .cell) then NameKind.cell else k:=fun x=>bx
 have kfree:∀ x,((ao X N' scope cl C fp s2 H2).env.kindOf x=some .cell∨(ao X N' scope cl C fp s2 H2).env.kindOf x=some .free)→scope.names.lookup x=some .free:=fun x hx=>by
  rw [kOf x] at hx
  cases e:scope.names.lookup x with
  | none=>rw [e] at hx; rcases hx with hx | hx <;> cases hx
  | some kd=>
   rw [e] at hx
   cases kd with
   | free=>rfl
   | «local»=>rcases hx with hx | hx <;> (simp at hx)
   | cell=>exact absurd rfl (S.cell _ (PySem.mem_of_lookup e))
   | globalExplicit=>rcases hx with hx | hx <;> (simp at hx)
   | globalImplicit=>rcases hx with hx | hx <;> (simp at hx)
 have hasC:∀ x,scope.names.lookup x=some .free→∃ c,cl.lookup x=some c:=fun x hx=>c2 _ (PySem.mem_of_lookup hx) rfl
 have hH:∀ a,s2.heap.objs.size≤a→H2 a=none:=fun a ha=>I2.hok.fresh ha
 have ok:(ao X N' scope cl C fp s2 H2).Ok:=by
  refine⟨I2.ok.mod,S.kind,I2.ok.glob,I2.ok.blt,?_,fun x y c h1 h2=>?_,fun x hx=>hasC x (kfree x hx),fun x c h=>absurd h (by show ¬ (false=true); decide),I2.ok.hd,I2.ok.frames,.inl rfl,fun b hb=>?_,I2.bs,Nat.le_trans I2.ok.bsz I2.sz,fun b o e hb=>?_,fun b hb z=>?_,I2.stack,I2.stkFree⟩
  ·show s2.heap.objs.size≤C
   omega
  ·exact I2.ok.inj x y c (c1 x c h1) (c1 y c h2)
  ·have:=fl b hb
   refine⟨by show @Ne Nat b C; omega,fun x c e z=>?_⟩
   exact(f2 b hb).2.2.2.2.1 x c (c1 x c e) z
  ·obtain⟨f0,f1,ff,f3,_⟩:=f2 b hb
   rcases f3 with z | z
   ·exact I2.ok.noex b o e z
   ·have q1:@LT.lt Nat _ b X.base.objs.size:=Heap.lt_size e
    have q2:=I2.ok.bsz
    have q3:@LE.le Nat _ X.s₀.heap.objs.size b:=z
    omega
  ·obtain⟨f0,f1,ff,_⟩:=f2 b hb
   exact(List.mem_cons.mp (I2.stkSub b z)).elim f1 ff
 refine⟨ok,ho,by rw [hg]; exact I2.bare,Un.kept old,?_,fun x c e=>?_,?_,fun x c e=>?_,fun p hp=>?_,I2.hok.kept old,?_⟩
 ·obtain⟨m,hn⟩:=hns
  refine⟨m,hn,fun i x v e1 e2 e3=>?_⟩
  have e2':(List.replicate n (none:Option V)++σ)[i]? = some (some v):=e2
  have e1':N'[i]? = some x:=e1
  by_cases hi:i<n
  ·rw [List.getElem?_append_left (by simpa using hi),List.getElem?_replicate] at e2'
   split at e2' <;> cases e2'
  ·obtain⟨j,rfl⟩:∃ j,i=n+j:=⟨i-n,by omega⟩
   rw [List.getElem?_append_right (by simp)] at e2'
   simp only [List.length_replicate,Nat.add_sub_cancel_left] at e2'
   have hj:j<X.N.length:=by rw [← I2.len]; exact(List.getElem?_eq_some_iff.mp e2').1
   have lk:=List.all_eq_true.mp S.look j (List.mem_range.mpr hj)
   rw [e1'] at lk
   have vis:scope.names.lookup x=some .local∨scope.names.lookup x=some .cell∨scope.names.lookup x=some .free:=by
    have e3':(ao X N' scope cl C fp s2 H2).env.kindOf x=some .local∨(ao X N' scope cl C fp s2 H2).env.kindOf x=some .cell∨(ao X N' scope cl C fp s2 H2).env.kindOf x=some .free:=e3
    rcases e3' with z | z | z
    ·rw [kOf x] at z
     cases e:scope.names.lookup x with
     | none=>rw [e] at z; cases z
     | some kd=>
      rw [e] at z
      simp only [Option.map_some] at z
      split at z
      ·cases z
      ·cases z; exact .inl rfl
    ·exact .inr (.inr (kfree x (.inl z)))
    ·exact .inr (.inr (kfree x (.inr z)))
   have lk2:scope.names.lookup x=some .free∧X.N[j]? = some x:=by
    simp only [Bool.or_eq_true,Bool.and_eq_true,Bool.not_eq_true',Bool.or_eq_false_iff,beq_iff_eq,beq_eq_false_iff_ne] at lk
    rcases lk with z | z
    ·exact z
    ·rcases vis with q | q | q
     ·exact absurd q z.1.1
     ·exact absurd q z.1.2
     ·exact absurd q z.2
   obtain⟨m0,hn0,hl0⟩:=I2.loc
   have vX:Vis X.env.scope x:=by
    rcases S.free _ (PySem.mem_of_lookup lk2.1) rfl with z | z
    ·exact .inr (.inl z)
    ·exact .inr (.inr z)
   obtain⟨u,r,l⟩:=hl0 j x v lk2.2 e2' vX
   refine⟨u,r,.inr ⟨?_,?_⟩⟩
   ·rw [kOf x,lk2.1]
    simp only [Option.map_some]
    split
    ·exact .inl rfl
    ·exact .inr rfl
   ·obtain⟨c,hc⟩:=hasC x lk2.1
    refine⟨c,hc,?_⟩
    rcases l with ⟨kl,_⟩ | ⟨_,c',hc',z⟩
    ·rcases S.free _ (PySem.mem_of_lookup lk2.1) rfl with q | q <;> (rw [kl] at q; cases q)
    ·have:=c1 x c hc
     rw [hc'] at this; cases this
     obtain⟨oc,hoc,hdc⟩:=z
     exact⟨oc,old _ _ hoc,hdc⟩
 ·obtain⟨v,oc,hoc,hdc⟩:=I2.cell x c (c1 x c e)
  exact⟨v,oc,old _ _ hoc,hdc⟩
 ·exact hH C (by omega)
 ·exact I2.freeC x c (c1 x c e)
 ·have e:p=(D,od):=by simpa [ao] using hp
  subst e
  refine⟨hd,hH D (by omega),by show @Ne Nat D C; omega,fun z=>?_,hnc⟩
  have:=frl D z
  omega
 ·show (List.replicate n none++σ).length=N'.length
  rw [List.length_append,List.length_replicate,S.len,I2.len]
theorem mO{E0:XK}{it:Addr}{fp:List Addr}{tn:Nat→Heap→Prop}{J:It}{g:aA TG}{tk tv:aA TE}{Q:VK}{E:Value→Shared→Prop}
  (hc:X.calm=true) (S:aM n N' X scope) (c1:∀ x c,cl.lookup x=some c→X.env.cells.lookup x=some c) (c2:∀ x∈scope.names,x.2=.free→∃ c,cl.lookup x.1=some c)
  (I2:Inv X pins σ H2 s2) (T:ic X.prog X.w X.K tg J fp it tn) (st2:tn 0 s2.heap) (f2:∀ b∈fp,dS X pins H2 b)
  (hg:∀ cl C ex s H,PG ((ao X N' scope cl C ex s H).exc E0) tg (g cl C ex s H)) (hk:∀ cl C ex s H,PE ((ao X N' scope cl C ex s H).exc E0) kx (tk cl C ex s H)) (hv:∀ cl C ex s H,PE ((ao X N' scope cl C ex s H).exc E0) vx (tv cl C ex s H))
  (cok:∀ cl C ex s Hc,eV n J (g cl C ex s Hc) (tk cl C ex s Hc) (tv cl C ex s Hc) σ H2 Q) :
  wpAny (model X.prog X.w) X.A newDict (fun acc s3=>wpAny (model X.prog X.w) X.A (newFunctionEnv scope X.env.globals cl [] X.env.qual none .none (some X.env)) (fun cenv s4=>
   codeAny (model X.prog X.w) X.A (.compStart (.DictComp kx vx [⟨tg,iter,[],0⟩] scope pos) 0 (.ref it) acc {cenv with scope:=relabel scope X.env})
    (fun r s'=>match r with | .ok _=>b7 X pins σ Q acc cenv.locals s' | .error x=>dU (ao X N' scope cl cenv.locals fp s2 H2) E0 x s') s4) E s3) E s2:=by
 have fl:∀ b∈fp,@LT.lt Nat _ b s2.heap.objs.size:=fun b hb=>by
  obtain⟨o,e,_⟩:=T.obj _ _ st2 b hb
  exact Heap.lt_size e
 have frl:∀ b∈frs X.stack,@LT.lt Nat _ b s2.heap.objs.size:=fun b hb=>by
  obtain⟨_,o,ho,_⟩:=I2.stack.mem hb
  exact Heap.lt_size ho
 have celll:∀ x c,X.env.cells.lookup x=some c→@LT.lt Nat _ c s2.heap.objs.size:=fun x c e=>by
  obtain⟨v,q⟩:=I2.cell x c e
  exact q.lt
 refine wpAny_newObj_type (wpAny_newFunctionEnv S.cell (by intro y hy; simp at hy) (fun h1 hns1 hsb1=>?_) S.kind)
 dsimp only at hns1 hsb1 ⊢
 generalize hH2:s2.heap.push {cls:=.type "dict",dict:=none,data:=.dict #[]}=G at hns1 hsb1 ⊢
 have hC:@Eq Nat G.objs.size (s2.heap.objs.size+1):=by rw [← hH2,Heap.size_push]
 have hDC:s2.heap.objs.size≠G.objs.size:=by show @Ne Nat _ _; omega
 have below:∀ b,@LT.lt Nat _ b s2.heap.objs.size→b≠G.objs.size∧b≠s2.heap.objs.size:=fun b hb=>⟨by show @Ne Nat _ _; omega,Nat.ne_of_lt hb⟩
 have old:∀ b o,s2.heap.get? b=some o→h1.get? b=some o:=fun b o e=>hsb1.extBut b o (below b (Heap.lt_size e)).1 (Heap.get?_push_of_some _ (hH2▸Heap.get?_push_of_some _ e))
 have hacc:h1.get? s2.heap.objs.size=some {cls:=.type "dict",data:=.dict #[]}:=hsb1.extBut _ _ hDC (Heap.get?_push_of_some _ (hH2▸Heap.get?_push_size _ rfl))
 have hst1:tn 0 h1:=T.keep _ _ _ st2 fun b hb o e=>old b o e
 let X':=ao X N' scope cl G.objs.size fp s2 H2
 obtain⟨W,⟨m0,w0⟩,turn⟩:=cok cl G.objs.size fp s2 H2
 have hXe:X'.xe=X.xe:=rfl
 have stat:∀ {H':Hp} {ps:List (Addr×Obj)},(∀ b∈fp,H' b=none)→(∀ p∈ps,p.1=s2.heap.objs.size)→∀ b∈fp,dS X' ps H' b:=fun {H' ps} hn hp b hb=>by
  obtain⟨f0,f1,ff,f3,f4,f5⟩:=f2 b hb
  refine⟨hn b hb,(below b (fl b hb)).1,fun z=>?_,.inl hb,fun x c e z=>?_,fun p hp' z=>?_⟩
  ·exact(List.mem_cons.mp (I2.stkSub b z)).elim f1 ff
  ·exact f4 x c (c1 x c e) z
  ·have e:p.1=s2.heap.objs.size:=hp p (by simpa [X',ao] using hp')
   exact(below b (fl b hb)).2 (z.symm.trans e)
 have loop:∀ s3:Shared,s3={s2 with heap:=h1,toks:=s2.toks+([]:List (Str×Value)).length}→
   codeAny (model X.prog X.w) X.A (.compLoop (.DictComp kx vx [⟨tg,iter,[],0⟩] scope pos) 0 (.ref it) (.ref s2.heap.objs.size) (compEnvC scope cl G.objs.size X.env))
    (fun r s'=>match r with | .ok _=>b7 X pins σ Q (.ref s2.heap.objs.size) G.objs.size s' | .error x=>dU (ao X N' scope cl G.objs.size fp s2 H2) E0 x s') s3:=by
  rintro s3 rfl
  have I3:=qS (od:={cls:=.type "dict",data:=.dict #[]}) (fun v z=>by cases z) (s':={s2 with heap:=h1,toks:=s2.toks+([]:List (Str×Value)).length}) S c1 c2 I2 f2 fl rfl hC rfl rfl old ⟨_,hns1⟩ hacc
  have hd0:h1.DictOf (aI X.prog X.w) s2.heap.objs.size []:=⟨_,_,_,hacc,⟨rfl,rfl,rfl⟩,rfl,by intro e he; simp at he,.nil,List.nodup_nil⟩
  refine dP (fun m s'=>∃ i ys us od σ' H',Inv X' [(s2.heap.objs.size,od)] σ' H' s'∧KV ys us∧s'.heap.DictOf (aI X.prog X.w) s2.heap.objs.size us∧tn i s'.heap∧(∀ b∈fp,H' b=none)∧ys.length≤sizeLine∧W i m ys σ' H') ?_ m0
   ⟨0,[],[],_,_,H2,I3,.nil,hd0,hst1,fun b hb=>(f2 b hb).1,Nat.zero_le _,w0⟩
  rintro m s' ⟨i,ys,us,od,σ',H',I',rv,dd,st',fr',hlen,w'⟩
  rcases turn i m ys σ' H' w' with ⟨stop,q⟩ | ⟨go,hlt,step⟩
  ·refine thn (T.done X' rfl rfl rfl hc i _ s' σ' H' _ I' (stat fr' (by simp)) st' stop) fun r s4 ⟨hr,I4⟩=>?_
   subst hr
   show b7 X pins σ Q (.ref s2.heap.objs.size) G.objs.size s4
   obtain⟨m1,hn1,_⟩:=I4.loc
   obtain⟨pD,nD,_,_,_⟩:=I4.pin (s2.heap.objs.size,od) (List.mem_append_right _ (by simp))
   have nD:H' s2.heap.objs.size=none:=nD
   have pD:s4.heap.get? s2.heap.objs.size=some od:=pD
   have hok:HOk X.prog X.w (upd H' s2.heap.objs.size (.dK ys)) s4.heap:=fun b u e=>by
    by_cases hb:b=s2.heap.objs.size
    ·subst hb
     rw [aa] at e; cases e
     exact⟨hlen,beq_eq_false_iff_ne.mpr (Nat.ne_of_gt I2.big),us,rv,dd.at fun o e=>by rw [(I'.pin (s2.heap.objs.size,od) (List.mem_append_right _ (by simp))).1] at e; cases e; exact pD⟩
    ·rw [ad hb] at e
     exact(I4.hok b u e).stay (fun _ _ _ q=>q) (fun c q=>by rw [ad (ae q nD)]; exact q) fun c xs q=>by rw [ad (ae q nD)]; exact q
   have un:Un (frs X.stack) fp H2 (upd H' s2.heap.objs.size (.dK ys)) s2.heap s4.heap:=by
    have u0:=I4.base
    refine⟨u0.keep,u0.slot,fun b o e n hx=>?_,u0.there,fun b xs e=>?_,fun b o xs e=>?_,fun b ps e=>?_⟩
    ·rw [ad (below b (Heap.lt_size e)).2]; exact u0.free b o e n hx
    ·have q:=u0.tups b xs e
     rw [ad (ae q nD)]; exact q
    ·have q:=u0.frzs b o xs e
     rw [ad (ae q nD)]; exact q
    ·obtain⟨more,q⟩:=u0.tbls b ps e
     exact⟨more,by rw [ad (ae q nD)]; exact q⟩
   have IX:Inv X pins σ (upd H' s2.heap.objs.size (.dK ys)) s4:=I2.call' (ch:=fp) I4.os un hok I4.bare fun b hb=>by
    obtain⟨f0,f1,ff,f3,f4,f5⟩:=f2 b hb
    exact⟨f3,f1,f4,f5⟩
   have hG0:H' G.objs.size=none:=I4.free
   refine⟨s2.heap.objs.size,_,m1,rfl,IX,hn1,⟨by rw [ad (Ne.symm hDC)]; exact hG0,fun z=>?_,fun z=>?_,.inr ?_,fun x c e z=>?_,fun p hp z=>?_⟩,q _ nD⟩
   ·have q1:@LT.lt Nat _ X.env.locals s2.heap.objs.size:=I2.lt
    have q2:@Eq Nat G.objs.size X.env.locals:=z
    omega
   ·have z':G.objs.size∈frs X.outer:=z
    obtain⟨_,o,ho,_⟩:=I2.funs.mem z'
    have q1:@LT.lt Nat _ G.objs.size s2.heap.objs.size:=Heap.lt_size ho
    omega
   ·have q1:=I2.sz
    show @LE.le Nat _ X.s₀.heap.objs.size G.objs.size
    omega
   ·have q1:=celll x c e
    have q2:@Eq Nat c G.objs.size:=z
    omega
   ·have q1:@LT.lt Nat _ p.1 s2.heap.objs.size:=Heap.lt_size (I2.pin p hp).1
    have q2:@Eq Nat p.1 G.objs.size:=z
    omega
  ·refine thn (T.item X' rfl rfl rfl hc i _ s' σ' H' _ I' (stat fr' (by simp)) st' go) fun r s4 ⟨u,hr,h4⟩=>?_
   subst hr
   show wpAny _ _ (letOwnedTupleGo tg (.ref it) u) _ _ s4
   refine thn h4 fun _ s5 ⟨x,H5,I5,r5,y5,st5,fr5⟩=>?_
   have I5':=I5.pinned (stat fr5 (by simp)) (T.obj _ _ st5)
   have w1:=hg cl G.objs.size fp s2 H2 _ s5 σ' H5 x u _ (I5'.wish _) r5 (step x H5 y5)
   refine wpAny_mono w1 (fun _ s6 ⟨σ6,H6,I6,q6⟩=>?_) fun v s hv=>wpAny_mono (XE.note (X:=ao X N' scope cl G.objs.size fp s2 H2) (E:=E0) hv) (fun _ _ z=>z) fun _ _ z=>z
   have w2:=hk cl G.objs.size fp s2 H2 _ s6 σ6 H6 _ I6 q6
   refine wpAny_mono w2 (fun yk s65 ⟨v0,H65,I65,r65,q65⟩=>?_) fun v s hv=>wpAny_mono (XE.note (X:=ao X N' scope cl G.objs.size fp s2 H2) (E:=E0) hv) (fun _ _ z=>z) fun _ _ z=>z
   have w3:=hv cl G.objs.size fp s2 H2 _ s65 σ6 H65 _ I65 q65
   refine wpAny_mono w3 (fun y s7 ⟨v,H7,I7w,r7,kk,ek,m',hm',w7⟩=>?_) fun v s hv=>wpAny_mono (XE.note (X:=ao X N' scope cl G.objs.size fp s2 H2) (E:=E0) hv) (fun _ _ z=>z) fun _ _ z=>z
   subst ek
   have I7:=I7w.unwish
   have pinD:=I7.pin (s2.heap.objs.size,od) (List.mem_append_right _ (List.mem_append_left _ (by simp)))
   obtain⟨pD,nD,lD,fD,_⟩:=pinD
   have dd7:s7.heap.DictOf (aI X.prog X.w) s2.heap.objs.size us:=dd.at fun o e=>by rw [(I'.pin (s2.heap.objs.size,od) (List.mem_append_right _ (by simp))).1] at e; cases e; exact pD
   refine wpAny_dictSet_pairs (knd:=aI X.prog X.w) (mw r65) dd7 (fun h8 dd8 hs8=>?_) (by rw [← rv.length]; exact hlen)
   obtain⟨o8,es8,ep8,ho8,hx8,hd8,_⟩:=id dd8
   have nD:H7 s2.heap.objs.size=none:=nD
   have I8:Inv X' (bW fp s5.heap) σ6 H7 {s7 with heap:=h8,toks:=s7.toks+1}:=by
    refine(I7.pins_of (pins':=bW fp s5.heap) fun p hp=>I7.pin p (List.mem_append_right _ (List.mem_append_right _ hp))).turned (t':=s7.toks+1) (it:=s2.heap.objs.size) (fun b o hb e=>(hs8.2 b hb).trans e) nD lD (.inr (Nat.le_refl _)) (fun x c e z=>?_) fun p hp z=>?_
    ·have q1:=celll x c (c1 x c e)
     have q2:@Eq Nat c s2.heap.objs.size:=z
     omega
    ·have hp':p∈bW fp s5.heap:=by simpa [X',ao] using hp
     have q1:=fl p.1 (eL hp').1
     have q2:@Eq Nat p.1 s2.heap.objs.size:=z
     omega
   have I9:Inv X' [(s2.heap.objs.size,o8)] σ6 H7 {s7 with heap:=h8,toks:=s7.toks+1}:=I8.pins_of fun p hp=>by
    have e:p=(s2.heap.objs.size,o8):=by simpa using hp
    subst e
    exact⟨ho8,nD,lD,fD,fun v z=>by rw [hd8] at z; cases z⟩
   refine⟨m',hm',i+1,_,_,o8,σ6,H7,I9,rv.put kk r7,dd8,T.keep _ _ _ st5 fun b hb o e=>?_,fun b hb=>?_,?_,w7⟩
   ·exact(I8.pin (b,o) (List.mem_append_right _ (aP hb e))).1
   ·obtain⟨o,e,d⟩:=T.obj _ _ st5 b hb
    exact(I8.pin (b,o) (List.mem_append_right _ (aP hb e))).2.1
   ·have:=bg ys kk v; omega
 exact codeAny_compStart_dict (loop _ rfl) (T.self _ 0 _ _ _ hst1 (loop _ rfl))
theorem qd{E0:XK}{wi:TI}{g:aA TG}{tk tv:aA TE}(fr:gU X)(hc:X.calm=true)(S:aM n N' X scope)(hi:PI (X.exc E0) tg iter wi)
  (hg:∀ cl C ex s H,PG ((ao X N' scope cl C ex s H).exc E0) tg (g cl C ex s H)) (hk:∀ cl C ex s H,PE ((ao X N' scope cl C ex s H).exc E0) kx (tk cl C ex s H)) (hv:∀ cl C ex s H,PE ((ao X N' scope cl C ex s H).exc E0) vx (tv cl C ex s H))
  (hs:∀ x,foldedSetIterable iter X.env x=pure x:=by intro _; rfl):PE (X.exc E0) (.DictComp kx vx [⟨tg,iter,[],0⟩] scope pos) (rK n wi g tk tv):=by
 intro pins s σ H Q I h
 rw [PySem.arm_eval_DictComp]
 obtain⟨cl,hcl,c1,c2⟩:=dQ (scope:=scope) (env:=X.env) fun x hx hf=>I.ok.has x.1 (S.free x hx hf)
 refine wpAny_comprehension_free (use:=none) rfl hs hcl S.kind S.names (thn (hi pins s σ H _ I h) fun v s1 h1=>thn h1 fun itv s2 h2=>?_)
 obtain⟨it,fp,tn,J,H2,e,I2w,T,st2,f2,cok⟩:=h2
 subst e
 have I2:=I2w.unwish
 refine wpAny_mono (mO (X:=X) (E0:=E0) (pos:=pos) (iter:=iter) (Q:=Q) (E:=(X.exc E0).xe) hc S c1 c2 I2 T st2 f2 hg hk hv cok) (fun acc s3 h3=>wpAny_mono h3 (fun cenv s4 h4=>codeAny_mono h4 fun r s' hr=>?_) fun _ _ z=>z) fun _ _ z=>z
 cases r with
 | error e=>exact i4 I2 f2 fr hr
 | ok f=>
  obtain⟨D,H',m,rfl,I',hn,⟨f0,f1,ff,f3,f4,f5⟩,q⟩:=hr
  refine⟨m,hn,fun h' hs'=>⟨.ref D,H',Inv.wish ?_ _,rfl,q⟩⟩
  exact I'.turned (t':=s'.toks) (fun b o hb e=>(hs'.2 b hb).trans e) f0 f1 f3 f4 f5
end
end L2
set_option maxHeartbeats 1000000
namespace L2
open PySem PySem.Spec PyProof.Rows
section
variable{P:Program}{w:World}{A:Around}{E:Value→Shared→Prop}{s:Shared}
theorem jk{A:Around}(hh:A.handled=none)(it l:Addr)(its:Array Value)(k:Nat)(ne:l≠it)(hk:k≤its.size):
  WalksS P w A it [it,l] [it] (fun a b=>b=a) (its.size-k) (fun i v=>its[k+i]? = some v) fun i s=>s.heap.IsListIter it l (k+i)∧s.heap.IsList l its where
 sub:=fun b hb=>by rw [List.mem_singleton.mp hb]; exact List.mem_cons_self
 grefl:=fun _=>rfl
 gtrans:=fun a b c h1 h2=>by rw [h2,h1]
 frame:=fun i s h' tk st _ hk=>⟨st.1.at fun o e=>hk it List.mem_cons_self o e,st.2.at fun o e=>hk l (List.mem_cons_of_mem _ List.mem_cons_self) o e⟩
 item:=fun i s Q E hi st q=>by
  have hlt:k+i<its.size:=by omega
  refine wpAny_pyNext_list_item st.1 st.2 (x:=its[k+i]) (by simp [hlt]) fun h1 a1 s1=>?_
  exact q _ _ (by simp [hlt]) ⟨a1,st.2.extBut s1.extBut ne⟩ ⟨fun b o hb e=>s1.extBut b o (fun z=>hb (by rw [z]; exact List.mem_singleton.mpr rfl)) e,rfl,rfl,rfl,Nat.le_refl _⟩
 done:=fun s Q E st q=>wpAny_pyNext_list_end hh st.1 st.2 (by have:=hk; simp; omega) fun h2 e2=>q _ ⟨fun b o hb e=>e2 b o (fun z=>hb (by rw [z]; exact List.mem_singleton.mpr rfl)) e,rfl,rfl,rfl,Nat.le_refl _⟩
 self:=fun i s Q E st q=>wpAny_pyIter_listiter st.1 q
theorem pP{A:Around}(hh:A.handled=none)(it l:Addr)(its:Array Value)(k:Nat)(ne:l≠it)(hk:k≤its.size):
  WalksS P w A it [it,l] [it] (fun a b=>b=a) (its.size-k) (fun i v=>its[k+i]? = some v) fun i s=>IsTupIter s.heap it l (k+i)∧IsTup s.heap l its where
 sub:=fun b hb=>by rw [List.mem_singleton.mp hb]; exact List.mem_cons_self
 grefl:=fun _=>rfl
 gtrans:=fun a b c h1 h2=>by rw [h2,h1]
 frame:=fun i s h' tk st _ hk=>⟨let ⟨o,ho,r⟩:=st.1; ⟨o,hk it List.mem_cons_self o ho,r⟩,let ⟨o,ho,r⟩:=st.2; ⟨o,hk l (List.mem_cons_of_mem _ List.mem_cons_self) o ho,r⟩⟩
 item:=fun i s Q E hi st q=>by
  have hlt:k+i<its.size:=by omega
  refine next_tuple_item st.1 st.2 (x:=its[k+i]) (by simp [hlt]) fun h1 a1 s1=>?_
  exact q _ _ (by simp [hlt]) ⟨a1,st.2.extBut s1.extBut ne⟩ ⟨fun b o hb e=>s1.extBut b o (fun z=>hb (by rw [z]; exact List.mem_singleton.mpr rfl)) e,rfl,rfl,rfl,Nat.le_refl _⟩
 done:=fun s Q E st q=>next_tuple_end hh st.1 st.2 (by have:=hk; simp; omega) fun h2 e2=>q _ ⟨fun b o hb e=>e2 b o (fun z=>hb (by rw [z]; exact List.mem_singleton.mpr rfl)) e,rfl,rfl,rfl,Nat.le_refl _⟩
 self:=fun i s Q E st q=>wpAny_pyIter_tupleiter (show s.heap.IsTupleIter it l (k+i) from st.1) q
theorem fJ{its acc:Array Value}{k:Nat}(hk:k≤its.size)(h:ItemsOf (fun i v=>its[k+i]? = some v) acc (its.size-k)):acc.toList=its.toList.drop k:=by
 refine List.ext_getElem? fun i=>?_
 rw [List.getElem?_drop,Array.getElem?_toList,Array.getElem?_toList]
 cases e:acc[i]? with
 | some v=>exact(h.2 i v e).symm
 | none=>
  have hs:=h.1
  have : acc.size≤i:=by simpa using e
  symm
  simp
  omega
theorem rP{l:Addr}{its:Array Value}{Q:List Value→Shared→Prop}(hh:A.handled=none)(hl:s.heap.IsList l its)(h1:1≤its.size)(hz:its.size≤sizeLine)
  (q:∀ h' t',(∀ b o,s.heap.get? b=some o→h'.get? b=some o)→wpAny (model P w) A (newList (its.toList.drop 1)) (fun v s2=>Q (its.toList.take 1++[v]) s2) E {s with heap:=h',toks:=t'}):wpAny (model P w) A (unpackItems (.ref l) 2 (some 1)) Q E s:=by
 have ne:l≠s.heap.objs.size:=by
  obtain⟨o,e,_⟩:=hl
  exact Nat.ne_of_lt (Heap.lt_size e)
 unfold unpackItems notIterableAtAll
 refine wpAny_bind (wpAny_bind (wpAny_specialOf hl.typeIs slot_list_iter.lookup (wpAny_pure ?_)))
 simp only [Bool.false_eq_true,if_false]
 refine wpAny_bind (wpAny_holding (wpAny_pyIter_list hl ?_))
 refine wpAny_bind (wpAny_holding (i3 ne 1 0 _ _ ⟨_,Heap.get?_push_size _ rfl,rfl,rfl⟩ (hl.push _) (by omega) fun h2 a2 s2=>?_))
 rw [List.drop_zero,if_neg (by rw [List.length_take,Array.length_toList]; omega)]
 refine wpAny_bind (wpAny_holding (wpAny_collect_iter (T:="list_iterator") (.inr (.inr (.inl rfl))) (jk (show A.in1.handled=none from hh) s.heap.objs.size l its 1 ne h1) (fun i s st=>st.1.typeIs) ⟨a2,(hl.push _).extBut s2.extBut ne⟩
  (fun b hb=>?_) List.mem_cons_self (fun s' acc mv ia=>?_) (by omega)))
 ·have hz':s.heap.objs.size<h2.objs.size:=by
   obtain⟨o,e,_⟩:=a2
   exact Heap.lt_size e
  rcases List.mem_cons.mp hb with rfl | hb
  ·exact hz'
  ·rw [List.mem_singleton.mp hb]
   obtain⟨o,e,_⟩:=hl
   exact Nat.lt_trans (Heap.lt_size e) hz'
 ·rw [fJ h1 ia]
  have hlen:¬ ((its.toList.drop 1).length<2-1-1):=by omega
  rw [if_neg hlen]
  refine wpAny_bind ?_
  have e1:(its.toList.drop 1).take ((its.toList.drop 1).length - (2-1-1))=its.toList.drop 1:=by rw [show (its.toList.drop 1).length - (2-1-1)=(its.toList.drop 1).length from by omega,List.take_length]
  have e2:(its.toList.drop 1).drop ((its.toList.drop 1).length - (2-1-1))=[]:=by rw [show (its.toList.drop 1).length - (2-1-1)=(its.toList.drop 1).length from by omega,List.drop_length]
  rw [e1,e2]
  obtain⟨mh,mg,md,mo,mt⟩:=mv
  obtain⟨h',g',d',t',o'⟩:=s'
  simp only at mg md mo mh
  subst mg md mo
  refine wpAny_mono (q h' t' (fun b o e=>?_)) (fun v s3 z=>wpAny_pure ?_) fun _ _ z=>z
  ·have nb:b≠s.heap.objs.size:=Nat.ne_of_lt (Heap.lt_size e)
   exact mh b o (fun z=>nb (List.mem_singleton.mp z)) (s2.extBut b o nb (Heap.get?_push_of_some _ e))
  ·rw [List.append_nil]; exact z
theorem rO{l:Addr}{its:Array Value}{Q:List Value→Shared→Prop}(hh:A.handled=none)(hl:IsTup s.heap l its)(h1:1≤its.size)(hz:its.size≤sizeLine)
  (q:∀ h' t',(∀ b o,s.heap.get? b=some o→h'.get? b=some o)→wpAny (model P w) A (newList (its.toList.drop 1)) (fun v s2=>Q (its.toList.take 1++[v]) s2) E {s with heap:=h',toks:=t'}):wpAny (model P w) A (unpackItems (.ref l) 2 (some 1)) Q E s:=by
 have ne:l≠s.heap.objs.size:=by
  obtain⟨o,e,_⟩:=hl
  exact Nat.ne_of_lt (Heap.lt_size e)
 unfold unpackItems notIterableAtAll
 refine wpAny_bind (wpAny_bind (wpAny_specialOf hl.typeIs slot_tuple_iter.lookup (wpAny_pure ?_)))
 simp only [Bool.false_eq_true,if_false]
 refine wpAny_bind (wpAny_holding (iter_tuple hl ?_))
 refine wpAny_bind (wpAny_holding (draw_tuple ne 1 0 _ _ ⟨_,Heap.get?_push_size _ rfl,rfl,rfl⟩ (hl.push _) (by omega) fun h2 a2 s2=>?_))
 rw [List.drop_zero,if_neg (by rw [List.length_take,Array.length_toList]; omega)]
 refine wpAny_bind (wpAny_holding (wpAny_collect_iter (T:="tuple_iterator") (.inr (.inr (.inr rfl))) (pP (show A.in1.handled=none from hh) s.heap.objs.size l its 1 ne h1) (fun i s st=>st.1.typeIs) ⟨a2,(hl.push _).extBut s2.extBut ne⟩
  (fun b hb=>?_) List.mem_cons_self (fun s' acc mv ia=>?_) (by omega)))
 ·have hz':s.heap.objs.size<h2.objs.size:=by
   obtain⟨o,e,_⟩:=a2
   exact Heap.lt_size e
  rcases List.mem_cons.mp hb with rfl | hb
  ·exact hz'
  ·rw [List.mem_singleton.mp hb]
   obtain⟨o,e,_⟩:=hl
   exact Nat.lt_trans (Heap.lt_size e) hz'
 ·rw [fJ h1 ia]
  have hlen:¬ ((its.toList.drop 1).length<2-1-1):=by omega
  rw [if_neg hlen]
  refine wpAny_bind ?_
  have e1:(its.toList.drop 1).take ((its.toList.drop 1).length - (2-1-1))=its.toList.drop 1:=by rw [show (its.toList.drop 1).length - (2-1-1)=(its.toList.drop 1).length from by omega,List.take_length]
  have e2:(its.toList.drop 1).drop ((its.toList.drop 1).length - (2-1-1))=[]:=by rw [show (its.toList.drop 1).length - (2-1-1)=(its.toList.drop 1).length from by omega,List.drop_length]
  rw [e1,e2]
  obtain⟨mh,mg,md,mo,mt⟩:=mv
  obtain⟨h',g',d',t',o'⟩:=s'
  simp only at mg md mo mh
  subst mg md mo
  refine wpAny_mono (q h' t' (fun b o e=>?_)) (fun v s3 z=>wpAny_pure ?_) fun _ _ z=>z
  ·have nb:b≠s.heap.objs.size:=Nat.ne_of_lt (Heap.lt_size e)
   exact mh b o (fun z=>nb (List.mem_singleton.mp z)) (s2.extBut b o nb (Heap.get?_push_of_some _ e))
  ·rw [List.append_nil]; exact z
inductive gStarI(K:PySem.W.Frag)(t:TGs)(v:V)(σ:St)(H:Hp)(Q:(St→Hp→Prop)):Prop where
 | mk:∀ a x xs,v=.ref a→((SqL K H a (x::xs)∨SqT K H a (x::xs)))→(∀ l,H l=none→t [x,.ref l] σ (upd H l (.lst xs)) Q)→gStarI K t v σ H Q
def zQ(K:PySem.W.Frag)(t:TGs):TG:=fun v σ H Q=>gStarI K t v σ H Q
theorem vA{X:Cx}{e1 e2:Expr}{p pos:Pos}{k:Nat}{t:TGs}(hc:X.calm=true)(h:PGs X [e1,e2] t)(hst:(assignEach [e1,.Starred e2 p] X.env).findIdx? (·.1)=some 1:=by rfl)
  (hm:(assignEach [e1,.Starred e2 p] X.env).map (·.2)=(assignEach [e1,e2] X.env).map (·.2):=by rfl) (hn:(assignEach [e1,.Starred e2 p] X.env).length=2:=by rfl):PG X (.Tuple [e1,.Starred e2 p] k pos) (zQ X.K t):=by
 intro pins s σ H v u Q I r hw
 obtain⟨a,x,xs,rfl,hq,hw⟩:=hw
 cases r
 rw [assign_Tuple]
 refine wpAny_bind (wpAny_standAt ?_)
 unfold unpack
 rw [hst,hn,hm]
 have fin:∀ (its:List Value) (h':Heap) (t':Nat),aw (x::xs) its→(x::xs).length≤sizeLine→(∀ b o,s.heap.get? b=some o→h'.get? b=some o)→
   wpAny (model X.prog X.w) X.A (newList (its.drop 1)) (fun v s2=>wpAny (model X.prog X.w) X.A (assignInOrder ((assignEach [e1,e2] X.env).map (·.2)) (its.take 1++[v])) (fun _ s'=>∃ σ' H',Inv X pins σ' H' s'∧Q σ' H') X.xe s2) X.xe {s with heap:=h',toks:=t'}:=by
  intro its h' t' rv hz hk
  cases rv with
  | cons r0 rs=>
   rename_i u0 us
   show wpAny _ _ (newList us) _ _ _
   have I1:Inv X pins σ H {s with heap:=h',toks:=t'}:=I.kept hk
   have hlen:=rs.length
   rw [List.length_cons] at hz
   refine wpAny_newObj_type ?_ (by show us.toArray.size≤sizeLine; rw [List.size_toArray]; omega)
   have hf:H h'.objs.size=none:=I1.hok.fresh (Nat.le_refl _)
   have I2:Inv X pins σ (upd H h'.objs.size (.lst xs)) {s with heap:=h'.push {cls:=.type "list",data:=.seq us.toArray},toks:=t'}:=
    I1.laid (t':=t') (fun b u e=>Heap.get?_push_of_some _ e) (Nat.le_refl _) ⟨by omega,us,0,rs,Heap.get?_push_size _ rfl⟩
   exact h pins _ σ _ [x,.ref h'.objs.size] [u0,.ref h'.objs.size] Q I2 (.cons r0 (.cons rfl .nil)) (hw _ hf)
 rcases hq with hq | hq
 ·obtain⟨its,rv,pl,hz⟩:=I.list hq
  have hl:=rv.length
  rw [List.length_cons] at hl hz
  refine wpAny_bind (wpAny_holding (rP (I.ok.hd hc) pl.isList (by rw [List.size_toArray]; omega) (by rw [List.size_toArray]; omega) fun h' t' hk=>?_))
  have:=fin its h' t' rv (by rw [List.length_cons]; exact hz) hk
  simpa using this
 ·obtain⟨its,rv,ht,hz⟩:=I.tuple hq
  have hl:=rv.length
  rw [List.length_cons] at hl hz
  refine wpAny_bind (wpAny_holding (rO (I.ok.hd hc) ht (by rw [List.size_toArray]; omega) (by rw [List.size_toArray]; omega) fun h' t' hk=>?_))
  have:=fin its h' t' rv (by rw [List.length_cons]; exact hz) hk
  simpa using this
end
section
variable{X:Cx}{E:Value→Shared→Prop}
theorem PE.wish{e:Expr}{t:TE}(h:PE X.nox e t)(E:Value→Shared→Prop):PE (X.wish E) e t:=PE.nox (X:=X.wish E) h
theorem PG.wish{e:Expr}{t:TG}(h:PG X.nox e t)(E:Value→Shared→Prop):PG (X.wish E) e t:=fun pins s σ H v u Q I r hw=>
 wpAny_mono (h pins s σ H v u Q (I.unwish.wish _) r hw) (fun _ _ ⟨σ',H',I',q⟩=>⟨σ',H',I'.unwish.wish _,q⟩) fun _ _ z=>False.elim z
theorem PI.wish{tg e:Expr}{t:TI}(h:PI X.nox tg e t)(E:Value→Shared→Prop):PI (X.wish E) tg e t:=fun pins s σ H R I hw=>
 wpAny_mono (h pins s σ H R (I.unwish.wish _) hw) (fun _ _ z=>wpAny_mono z (fun _ _ ⟨it,fp,tn,J,H2,e,I2,T,st2,f2,r⟩=>⟨it,fp,tn,J,H2,e,I2.unwish.wish _,T,st2,f2,r⟩) fun _ _ z=>False.elim z) fun _ _ z=>False.elim z
theorem tH{n:Nat}{N':List Str}{scope:Scope}{kx vx tg iter:Expr}{pos:Pos}{wi:TI}{g:aA TG}{tk tv:aA TE}(fr:gU X)(hc:X.calm=true)(S:aM n N' X.nox scope)(hi:PI X.nox tg iter wi)
  (hg:∀ cl C ex s H,PG (ao X.nox N' scope cl C ex s H) tg (g cl C ex s H)) (hk:∀ cl C ex s H,PE (ao X.nox N' scope cl C ex s H) kx (tk cl C ex s H)) (hv:∀ cl C ex s H,PE (ao X.nox N' scope cl C ex s H) vx (tv cl C ex s H))
  (hs:∀ x,foldedSetIterable iter X.env x=pure x:=by intro _; rfl):PE X.nox (.DictComp kx vx [⟨tg,iter,[],0⟩] scope pos) (rK n wi g tk tv):=by
 intro pins s σ H Q I h
 have S':aM n N' X scope:=⟨S.kind,S.names,S.cell,S.free,S.nd,S.len,S.look⟩
 refine wpAny_mono (qd (X:=X) (E0:=fun _ _ _=>False) fr hc S' (hi.wish _) (fun cl C ex s H=>PG.wish (X:=ao X N' scope cl C ex s H) (hg cl C ex s H) _) (fun cl C ex s H=>PE.wish (X:=ao X N' scope cl C ex s H) (hk cl C ex s H) _) (fun cl C ex s H=>PE.wish (X:=ao X N' scope cl C ex s H) (hv cl C ex s H) _) hs pins s σ H Q (I.unwish.wish _) h)
  (fun _ _ ⟨v,H',I',r,q⟩=>⟨v,H',I'.unwish.wish _,r,q⟩) fun e s z=>?_
 obtain⟨a,L,cls,σ',H',fl,S,env0,rest,h1,h2,h3,h4,h5,h6,h7,h8,hE⟩:=z
 exact hE
end
theorem iS{K:Type}[DecidableEq K]:∀ (more kvs:List (K×Value)),((kvs++more).map (·.1)).Nodup→merged kvs more=kvs++more
 | [],kvs,_=>by rw [List.append_nil]; rfl
 | kv::r,kvs,h=>by
  have h0:¬ kv.1∈kvs.map (·.1):=by
   rw [List.map_append,List.map_cons] at h
   intro hm
   exact(List.nodup_append.mp h).2.2 _ hm _ List.mem_cons_self rfl
  have e:stored kvs kv.1 kv.2=kvs++[kv]:=by
   unfold stored
   rw [if_neg]
   intro hs
   obtain⟨x,hx,e⟩:=List.any_eq_true.mp hs
   exact h0 (List.mem_map.mpr ⟨x,hx,of_decide_eq_true e⟩)
  show merged (stored kvs kv.1 kv.2) r=_
  rw [e,iS r (kvs++[kv]) (by simpa using h)]
  simp
section
variable{P:Program}{w:World}{A:Around}{E:Value→Shared→Prop}{s:Shared}
theorem ot{Q:Value→Shared→Prop}{d:Addr}{kvs:List (Key×Value)}(hs:(d==sysModules)=false)(hm:s.heap.DictOf (aI P w) d kvs)(hsz:kvs.length≤sizeLine)
  (h:∀ h',h'.DictOf (aI P w) s.heap.objs.size kvs→(∀ b o,s.heap.get? b=some o→h'.get? b=some o)→Q (.ref s.heap.objs.size) {s with heap:=h'}):wpAny (model P w) A (call (.type "dict") [.ref d]) Q E s:=by
 have hlt:d<s.heap.objs.size:=by obtain⟨o,_,_,ho,_⟩:=hm; exact Heap.lt_size ho
 refine callType_codes (Q₁:=fun obj s₁=>obj=.ref s.heap.objs.size∧s₁={s with heap:=s.heap.push {cls:=.type "dict",data:=.dict #[]}}) F.kt_called_dict (F.kt_typeCall_dict_1 _) F.entry_dict_init (kt_code_dict_new _ ⟨rfl,rfl⟩) ?_
 rintro obj s₁ ⟨rfl,rfl⟩
 have hnew:(s.heap.push {cls:=.type "dict",data:=.dict #[]}).DictOf (aI P w) s.heap.objs.size []:=Heap.DictOf.new s.heap
 have hold:(s.heap.push {cls:=.type "dict",data:=.dict #[]}).DictOf (aI P w) d kvs:=hm.push _
 refine⟨hnew.typeIs,F.args_dict_init_2 _ _,?_⟩
 unfold Builtin.«dict.__init__»
 refine wpAny_bind ?_
 unfold Builtin.Dict.selfAndRest
 refine wpAny_bind (wpAny_notOrdered_dict hnew.typeIs ?_)
 show wpAny _ _ (pure (s.heap.objs.size,[Value.ref d])) _ _ _
 refine wpAny_pure ?_
 show wpAny _ _ (Builtin.Dict.updateFrom "dict.__init__" s.heap.objs.size (.ref d) [] .none) _ _ _
 unfold Builtin.Dict.updateFrom
 refine wpAny_bind (wpAny_typeOf hold.typeIs ?_)
 rw [if_neg (by decide)]
 refine wpAny_bind ?_
 unfold Builtin.Dict.merge
 refine wpAny_bind ?_
 unfold Builtin.Dict.readDirectly
 refine wpAny_bind (wpAny_isInstance hold.typeIs isSubtype_dict_dict ?_)
 simp only [Bool.not_true,Bool.false_eq_true,if_false]
 refine wpAny_bind (wpAny_specialOf hold.typeIs F.slot_dict_iter.lookup (wpAny_pure ?_))
 simp only [beq_self_eq_true,if_true]
 refine wpAny_bind (wpAny_pure ?_)
 refine wpAny_mergeDict (knd:=aI P w) (Nat.ne_of_gt hlt) hs hnew hold (fun h' hd' _ sb=>?_) (by simpa using hsz)
 have hn:(kvs.map (·.1)).Nodup:=by obtain⟨_,_,_,_,_,_,_,_,hn⟩:=hm; exact hn
 rw [iS kvs [] (by simpa using hn),List.nil_append] at hd'
 show wpAny _ _ (Builtin.Dict.addKeywords s.heap.objs.size []>>=_) _ _ _
 unfold Builtin.Dict.addKeywords
 refine wpAny_bind (wpAny_pure ?_)
 exact wpAny_pure ⟨rfl,h h' hd' fun b o e=>(sb.2 b (Nat.ne_of_lt (Heap.lt_size e))).trans (Heap.get?_push_of_some _ e)⟩
end
inductive rCall_dictDI(xs:List V)(H:Hp)(Q:VK):Prop where
 | mk:∀ a kvs,xs=[.ref a]→H a=some (.dK kvs)→(∀ d,H d=none→Q (.ref d) (upd H d (.dK kvs)))→rCall_dictDI xs H Q
theorem ou{X:Cx}:cv X (.type "dict") (fun xs H Q=>rCall_dictDI xs H Q):=by
 intro pins s σ H xs us Q I r h
 obtain⟨a,kvs,rfl,e,q⟩:=h
 obtain⟨u,rfl,rx⟩:=ci r
 cases rx
 obtain⟨hl,hs,vs,kv,hm⟩:=(show aF X.prog X.w H s.heap a (.dK kvs) from I.hok a _ e)
 have hlen:vs.length=kvs.length:=(Paired.length kv).symm
 refine ot hs hm (by rw [hlen]; exact hl) fun h' hd' kp=>?_
 have hfr:H s.heap.objs.size=none:=I.hok.fresh (Nat.le_refl _)
 refine⟨.ref s.heap.objs.size,_,I.laid (t':=s.toks) kp (Nat.le_refl _) (show aF X.prog X.w _ h' _ (.dK kvs) from ⟨hl,?_,vs,kv,hd'⟩),rfl,q _ hfr⟩
 have hb:=I.big
 exact beq_false_of_ne (Nat.ne_of_gt hb)
end L2
namespace L2
open PySem PySem.Spec PyProof.Rows PySem.Builtin.Str
section
variable{X:Cx}
theorem jt:∀ l:List (Str×Tok),aw ((l.map (·.1)).map V.str) (strValues l)
 | []=>.nil
 | (x,t)::r=>.cons ⟨t,rfl⟩ (jt r)
inductive rMt_splitI(x:V)(xs:List V)(H:Hp)(Q:VK):Prop where
 | mk:∀ (z y:Str),x=.str z→xs=[.str y]→(y.length==0)=false→z.length<sizeLine→(Txt.split z y).length≤sizeLine→(∀ l,H l=none→Q (.ref l) (upd H l (.lst ((Txt.split z y).map V.str))))→rMt_splitI x xs H Q
theorem lZ:MtR X "str.split" (fun x xs H Q=>rMt_splitI x xs H Q):=by
 intro pins s σ H x xs v us Q I rx rs h
 obtain⟨z,y,rfl,rfl,hy,hz,hn,q⟩:=h
 obtain⟨t,rfl⟩:=rx
 obtain⟨u,rfl,ru⟩:=ci rs
 obtain⟨t2,rfl⟩:=ru
 have fin:∀ (l:List (Str×Tok)) (k:Nat),l.map (·.1)=Txt.split z y→EP X pins σ Q (.ref s.heap.objs.size) {s with heap:=s.heap.push {cls:=.type "list",data:=.seq (strValues l).toArray},toks:=k}:=fun l k e=>by
  have hf:H s.heap.objs.size=none:=I.hok.fresh (Nat.le_refl _)
  refine⟨.ref s.heap.objs.size,upd H s.heap.objs.size (.lst ((Txt.split z y).map V.str)),I.laid (t':=k) (fun b u e=>Heap.get?_push_of_some _ e) (Nat.le_refl _) ?_,rfl,q _ hf⟩
  refine⟨by rw [List.length_map]; exact hn,strValues l,0,?_,Heap.get?_push_size _ rfl⟩
  rw [← e]; exact jt l
 cases h1:(decide (z.length<y.length)||decide (strKind z<strKind y))
 ·cases hf:(occurrences z y 0 z.length (z.length+1)).isEmpty
  ·have e:Txt.split z y=partsBetween z (occurrences z y 0 z.length (z.length+1)) y.length:=(if_neg (ne_true_of_eq_false h1)).trans (if_neg (ne_true_of_eq_false hf))
   refine call_meets F.slot_str_split (typeIs_str _ _ _) F.entry_str_split (F.args_str_split_2 _ _) (meets_str_split_sep z y t t2 h1 hy hf (Nat.le_of_lt hz) (by rw [← e]; exact hn)) ?_
   have:=fin (numbered s.toks (partsBetween z (occurrences z y 0 z.length (z.length+1)) y.length)) (s.toks+(partsBetween z (occurrences z y 0 z.length (z.length+1)) y.length).length) ((numbered_texts _ _).trans e.symm)
   rw [← strsFrom_eq] at this
   exact this
  ·exact call_meets F.slot_str_split (typeIs_str _ _ _) F.entry_str_split (F.args_str_split_2 _ _) (meets_str_split_not_found z y t t2 h1 hy hf) (fin [(z,t)] s.toks ((if_neg (ne_true_of_eq_false h1)).trans (if_pos hf)).symm)
 ·exact call_meets F.slot_str_split (typeIs_str _ _ _) F.entry_str_split (F.args_str_split_2 _ _) (meets_str_split_cannot_occur z y t t2 h1) (fin [(z,t)] s.toks (if_pos h1).symm)
end
theorem eQ(a b:Str):(a++b).cps.toList=a.cps.toList++b.cps.toList:=by
 show (a.cps++b.cps).toList=_
 simp
theorem uM{c:Nat}:∀ {a b r q:List Nat},c∉a→c∉b→a++c::r=b++c::q→a=b∧r=q
 | [],[],_,_,_,_,e=>⟨rfl,(List.cons.inj e).2⟩
 | [],y::b,_,_,_,hb,e=>absurd (List.mem_cons.mpr (.inl (List.cons.inj e).1)) hb
 | x::a,[],_,_,ha,_,e=>absurd (List.mem_cons.mpr (.inl (List.cons.inj e).1.symm)) ha
 | x::a,y::b,_,_,ha,hb,e=>by
  obtain⟨e1,e2⟩:=List.cons.inj e
  obtain⟨h1,h2⟩:=uM (fun h=>ha (List.mem_cons_of_mem _ h)) (fun h=>hb (List.mem_cons_of_mem _ h)) e2
  exact⟨by rw [e1,h1],h2⟩
theorem gt{a b:Str}(h:a.cps.toList=b.cps.toList):a=b:=by
 obtain⟨x⟩:=a
 obtain⟨y⟩:=b
 congr 1
 exact Array.toList_inj.mp h
theorem bz(c:Nat)(x y:Str)(r:List Str):(Str.join ⟨#[c]⟩ (x::y::r)).cps.toList=x.cps.toList++c::(Str.join ⟨#[c]⟩ (y::r)).cps.toList:=by
 show (x++(⟨#[c]⟩:Str)++Str.join ⟨#[c]⟩ (y::r)).cps.toList=_
 rw [eQ,eQ]
 simp
theorem mB(c:Nat):∀ (A B:List Str),A≠[]→B≠[]→(∀ p∈A,c∉p.cps.toList)→(∀ p∈B,c∉p.cps.toList)→Str.join ⟨#[c]⟩ A=Str.join ⟨#[c]⟩ B→A=B
 | [],_,h,_,_,_,_=>absurd rfl h
 | _::_,[],_,h,_,_,_=>absurd rfl h
 | [x],[y],_,_,_,_,e=>by rw [show x=y from e]
 | [x],y::z::r,_,_,hA,_,e=>by
  have e':x.cps.toList=_:=(congrArg (fun s:Str=>s.cps.toList) e).trans (bz c y z r)
  exact absurd (by rw [e']; simp) (hA x List.mem_cons_self)
 | x::z::r,[y],_,_,_,hB,e=>by
  have e':y.cps.toList=_:=(congrArg (fun s:Str=>s.cps.toList) e.symm).trans (bz c x z r)
  exact absurd (by rw [e']; simp) (hB y List.mem_cons_self)
 | x::x2::r,y::y2::q,_,_,hA,hB,e=>by
  have e':=(bz c x x2 r).symm.trans ((congrArg (fun s:Str=>s.cps.toList) e).trans (bz c y y2 q))
  obtain⟨h1,h2⟩:=uM (hA x List.mem_cons_self) (hB y List.mem_cons_self) e'
  rw [gt h1,mB c (x2::r) (y2::q) (by simp) (by simp) (fun p hp=>hA p (List.mem_cons_of_mem _ hp)) (fun p hp=>hB p (List.mem_cons_of_mem _ hp)) (gt h2)]
theorem fc(c:Nat){A:List Str}(hA:A≠[])(hf:∀ p∈A,c∉p.cps.toList):Txt.split (Str.join ⟨#[c]⟩ A) ⟨#[c]⟩=A:=by
 refine mB c _ _ ?_ hA (StrLaws.split_free _ c) hf (StrLaws.join_split _ _)
 unfold Txt.split
 split
 ·simp
 ·split
  ·simp
  ·rw [StrLaws.partsBetween_eq]
   obtain⟨p,r,e⟩:=StrLaws.partsFrom_ne (Str.join ⟨#[c]⟩ A) (Str.length ⟨#[c]⟩) 0 (occurrences (Str.join ⟨#[c]⟩ A) ⟨#[c]⟩ 0 (Str.join ⟨#[c]⟩ A).length ((Str.join ⟨#[c]⟩ A).length+1))
   rw [e]; simp
end L2
namespace L2
open PySem PySem.Spec PyProof.Rows
section
variable{P:Program}{w:World}{A:Around}{E:Value→Shared→Prop}{s:Shared}{It1 It2:Nat→Heap→Prop}{z TI TO i1 i2 l1 l2:Addr}{xs ys:Array Value}{k:Nat}{x y a b:Value}
theorem uX(hi:∀ k h,It1 k h→i1<h.objs.size)(hi':∀ k h,It2 k h→i2<h.objs.size){Q:Option Value→Shared→Prop}(D:ZipApart z TI TO i1 i2 l1 l2)(F1:uW P w i1 l1 xs It1)(F2:uW P w i2 l2 ys It2)
  (hz:ZAt s.heap z TI TO .none false) (hTI:IsPair s.heap TI (.ref i1) (.ref i2)) (hTO:IsPair s.heap TO a b) (h1:It1 k s.heap) (h2:It2 k s.heap) (hx:xs[k]? = some x) (hy:ys[k]? = some y)
  (hQ:∀ h',ZAt h' z TI TO (rawInt (s.heap.objs.size:Int)) false→IsPair h' TI (.ref i1) (.ref i2)→(∃ a b,IsPair h' TO a b)→It1 (k+1) h'→It2 (k+1) h'→IsPair h' s.heap.objs.size x y→(∀ c o,c≠z→c≠TO→c≠i1→c≠i2→s.heap.get? c=some o→h'.get? c=some o)→Q (some (.ref s.heap.objs.size)) {s with heap:=h'}) :
  wpAny (model P w) A (pyNext (.ref z)) Q E s:=by
 have hT:s.TypeIs (.ref z) "zip":=⟨_,hz,rfl⟩
 have hzl:=Heap.lt_size hz
 have hTOl:=Heap.lt_size hTO
 have hi1l:=hi _ _ h1
 have hi2l:=hi' _ _ h2
 unfold pyNext
 refine wpAny_bind (wpAny_attempt (wpAny_callSpecial?_slot (name:=Str.ofString "__next__") hT F.slot_zip_next (wpAny_call_entry F.slot_zip_next hT F.entry_zip_next ?_ (F.args_zip_next_1 _))))
 show wpAny _ _ (field (.ref z) 2>>=_) _ _ _
 refine wpAny_bind (wpAny_field hz rfl (x:=.bool false) rfl ?_)
 show wpAny _ _ (field (.ref z) 3>>=_) _ _ _
 refine wpAny_bind (wpAny_field hz rfl (x:=.ref TI) rfl (wpAny_bind (wpAny_seqItems hTI rfl ?_)))
 show wpAny _ _ (Builtin.SmallTypes.ownedTupleIsFree (.ref z)>>=_) _ _ _
 refine wpAny_bind ?_
 unfold Builtin.SmallTypes.ownedTupleIsFree
 refine wpAny_bind (wpAny_field hz rfl (x:=.none) rfl (wpAny_pure ?_))
 simp only [if_true]
 refine wpAny_bind (wpAny_rule ?_)
 refine wpAny_bind (wpAny_field hz rfl (x:=.ref TO) rfl ?_)
 refine wpAny_bind (wpAny_setField_rec hz (by simp) fun h₁ hz₁ hs₁=>?_)
 replace hz₁:ZAt h₁ z TI TO .ellipsis false:=hz₁
 refine wpAny_bind ?_
 simp only [List.zipIdx_cons,List.zipIdx_nil,List.forIn_cons,List.forIn_nil]
 have kp1:∀ c o,c≠z→s.heap.get? c=some o→h₁.get? c=some o:=fun c o hc e=>hs₁.extBut c o hc e
 have a1:It1 k h₁:=F1.keep _ _ _ h1 fun b hb o e=>kp1 b o (by rcases hb with rfl | rfl; exact D.i1z; exact D.l1z) e
 have b1:It2 k h₁:=F2.keep _ _ _ h2 fun b hb o e=>kp1 b o (by rcases hb with rfl | rfl; exact D.i2z; exact D.l2z) e
 refine wpAny_bind (wpAny_bind (wpAny_onRaise ?_))
 show wpAny _ _ (Builtin.SmallTypes.nextOf (.ref i1)>>=_) _ _ _
 refine wpAny_bind (F1.item _ {s with heap:=h₁} k x _ _ a1 hx fun h₂ a2 hs₂=>wpAny_pure ?_)
 have hTO₂:IsPair h₂ TO a b:=hs₂.extBut _ _ D.TOi1 (kp1 _ _ D.TOz hTO)
 refine wpAny_bind (wpAny_seqItems hTO₂ rfl ?_)
 refine wpAny_bind (wpAny_updateSeq_pair hTO₂ fun h₃ hTO₃ hs₃=>?_)
 replace hTO₃:IsPair h₃ TO x b:=hTO₃
 refine wpAny_bind (wpAny_letGo (wpAny_pure ?_))
 have b3:It2 k h₃:=F2.keep _ _ _ b1 fun c hc o e=>hs₃.extBut c o (by rcases hc with rfl | rfl; exact D.TOi2.symm; exact D.l2TO) (hs₂.extBut c o (by rcases hc with rfl | rfl; exact D.i12.symm; exact D.l2i1) e)
 have a3:It1 (k+1) h₃:=F1.keep _ _ _ a2 fun c hc o e=>hs₃.extBut c o (by rcases hc with rfl | rfl; exact D.TOi1.symm; exact D.l1TO) e
 refine wpAny_bind (wpAny_bind (wpAny_onRaise ?_))
 show wpAny _ _ (Builtin.SmallTypes.nextOf (.ref i2)>>=_) _ _ _
 refine wpAny_bind (F2.item _ {s with heap:=h₃} k y _ _ b3 hy fun h₄ b4 hs₄=>wpAny_pure ?_)
 have hTO₄:IsPair h₄ TO x b:=hs₄.extBut _ _ D.TOi2 hTO₃
 refine wpAny_bind (wpAny_seqItems hTO₄ rfl ?_)
 refine wpAny_bind (wpAny_updateSeq_pair hTO₄ fun h₅ hTO₅ hs₅=>?_)
 replace hTO₅:IsPair h₅ TO x y:=hTO₅
 refine wpAny_bind (wpAny_letGo (wpAny_pure (wpAny_pure ?_)))
 refine wpAny_bind (wpAny_seqItems hTO₅ rfl ?_)
 refine wpAny_bind (wpAny_newTuple ?_)
 have hsz:h₅.objs.size=s.heap.objs.size:=by rw [hs₅.1,hs₄.1,hs₃.1,hs₂.1,hs₁.1]
 have hz₅:ZAt h₅ z TI TO .ellipsis false:=hs₅.extBut _ _ D.TOz.symm (hs₄.extBut _ _ D.i2z.symm (hs₃.extBut _ _ D.TOz.symm (hs₂.extBut _ _ D.i1z.symm hz₁)))
 have hk₅:∀ c o,c≠z→c≠TO→c≠i1→c≠i2→s.heap.get? c=some o→h₅.get? c=some o:=fun c o c1 c2 c3 c4 e=>
  hs₅.extBut _ _ c2 (hs₄.extBut _ _ c4 (hs₃.extBut _ _ c2 (hs₂.extBut _ _ c3 (kp1 _ _ c1 e))))
 have a5:It1 (k+1) h₅:=F1.keep _ _ _ a3 fun c hc o e=>hs₅.extBut c o (by rcases hc with rfl | rfl; exact D.TOi1.symm; exact D.l1TO) (hs₄.extBut c o (by rcases hc with rfl | rfl; exact D.i12; exact D.l1i2) e)
 have b5:It2 (k+1) h₅:=F2.keep _ _ _ b4 fun c hc o e=>hs₅.extBut c o (by rcases hc with rfl | rfl; exact D.TOi2.symm; exact D.l2TO) e
 show wpAny _ _ (Builtin.SmallTypes.ownedTupleHandOut (.ref z) (.ref h₅.objs.size)>>=_) _ _ _
 refine wpAny_bind ?_
 unfold Builtin.SmallTypes.ownedTupleHandOut
 have hz₆:ZAt (h₅.push {cls:=.type "tuple",data:=.seq #[x,y]}) z TI TO .ellipsis false:=Heap.get?_push_of_some _ hz₅
 refine wpAny_bind (wpAny_setField_rec hz₆ (by simp) fun h₇ hz₇ hs₇=>?_)
 replace hz₇:ZAt h₇ z TI TO (rawInt h₅.objs.size) false:=hz₇
 refine wpAny_setField_rec hz₇ (by simp) fun h₈ hz₈ hs₈=>?_
 replace hz₈:ZAt h₈ z TI TO (rawInt h₅.objs.size) false:=hz₈
 have up:∀ c o,c≠z→h₅.get? c=some o→h₈.get? c=some o:=fun c o c1 e=>hs₈.extBut _ _ c1 (hs₇.extBut _ _ c1 (Heap.get?_push_of_some _ e))
 have hT₈:IsPair h₈ h₅.objs.size x y:=hs₈.extBut _ _ (by rw [hsz]; exact Nat.ne_of_gt hzl) (hs₇.extBut _ _ (by rw [hsz]; exact Nat.ne_of_gt hzl) (Heap.get?_push_size _ rfl))
 rw [hsz] at hz₈ hT₈
 refine wpAny_pure ⟨_,rfl,?_⟩
 show wpAny _ _ (pure (some (Value.ref h₅.objs.size))) _ _ _
 rw [hsz]
 refine wpAny_pure (hQ h₈ hz₈ (up _ _ D.TIz (hk₅ _ _ D.TIz D.TITO D.TIi1 D.TIi2 hTI)) ⟨_,_,up _ _ D.TOz hTO₅⟩ (F1.keep _ _ _ a5 fun c hc o e=>up c o (by rcases hc with rfl | rfl; exact D.i1z; exact D.l1z) e) (F2.keep _ _ _ b5 fun c hc o e=>up c o (by rcases hc with rfl | rfl; exact D.i2z; exact D.l2z) e) hT₈ fun c o c1 c2 c3 c4 e=>up c o c1 (hk₅ c o c1 c2 c3 c4 e))
end
def Itz(K:PySem.W.Frag)(a b:Addr):It:=
  ⟨fun i H=>∃ xs ys x y,SqL K H a xs∧SqT K H b ys∧xs[i]? = some x∧ys[i]? = some y,fun i H v H'=>∃ p x y,H p=none∧v=.ref p∧H'=upd H p (.tup [x,y])∧(∀ xs,SqL K H a xs→xs[i]? = some x)∧∀ ys,SqT K H b ys→ys[i]? = some y,
   fun i H=>∃ xs ys,SqL K H a xs∧SqT K H b ys∧xs.length≤i⟩
def Ztn(z TI TO i1 i2 l1 l2:Addr)(i:Nat)(h:Heap):Prop:=ZAt h z TI TO .none false∧IsPair h TI (.ref i1) (.ref i2)∧(∃ a b,IsPair h TO a b)∧h.IsListIter i1 l1 i∧h.IsTupleIter i2 l2 i
theorem rm{P:Program}{w:World}{K:PySem.W.Frag}{elts:List Expr}{k:Nat}{tpos:Pos}{z TI TO i1 i2 l1 l2:Addr}(D:ZipApart z TI TO i1 i2 l1 l2):ic P w K (.Tuple elts k tpos) (Itz K l1 l2) [z,TI,TO,i1,i2] z (Ztn z TI TO i1 i2 l1 l2) where
 mem:=by simp
 obj:=fun i h st b hb=>by
  obtain⟨hz,hTI,⟨a,c,hTO⟩,⟨o1,e1,_,d1⟩,⟨o2,e2,_,d2⟩⟩:=st
  simp only [List.mem_cons,List.not_mem_nil,or_false] at hb
  rcases hb with rfl | rfl | rfl | rfl | rfl
  ·exact⟨_,hz,fun v z=>by cases z⟩
  ·exact⟨_,hTI,fun v z=>by cases z⟩
  ·exact⟨_,hTO,fun v z=>by cases z⟩
  ·exact⟨o1,e1,fun v z=>by rw [d1] at z; cases z⟩
  ·exact⟨o2,e2,fun v z=>by rw [d2] at z; cases z⟩
 keep:=fun i h h' st k=>by
  obtain⟨hz,hTI,⟨a,c,hTO⟩,⟨o1,e1,r1⟩,⟨o2,e2,r2⟩⟩:=st
  exact⟨k z (by simp) _ hz,k TI (by simp) _ hTI,⟨a,c,k TO (by simp) _ hTO⟩,⟨o1,k i1 (by simp) _ e1,r1⟩,⟨o2,k i2 (by simp) _ e2,r2⟩⟩
 item:=by
  intro X hP hw hK hc i pins s σ H E I hf st hg
  subst hP hw hK
  obtain⟨xs,ys,x,y,hq,hq2,hx,hy⟩:=hg
  obtain⟨its,rv,pl,hz1⟩:=I.list hq
  obtain⟨u,hu,ru⟩:=rv.get hx
  obtain⟨jts,rv2,pl2,hz2⟩:=I.tuple hq2
  obtain⟨u2,hu2,ru2⟩:=rv2.get hy
  obtain⟨hz,hTI,⟨a,c,hTO⟩,h1,h2⟩:=st
  have F1:=jS (P:=X.prog) (w:=X.w) i1 l1 its.toArray D.l1i1
  have F2:=dD (P:=X.prog) (w:=X.w) i2 l2 jts.toArray D.l2i2
  refine uX (fun k h z=>by obtain⟨⟨o,e,_⟩,_⟩:=z; exact Heap.lt_size e) (fun k h z=>by obtain⟨⟨o,e,_⟩,_⟩:=z; exact Heap.lt_size e) D F1 F2 hz hTI hTO ⟨h1,pl.isList⟩ ⟨h2,pl2⟩ (by simpa using hu) (by simpa using hu2) fun h' hz' hTI' hTO' a' b' hT hk=>⟨_,rfl,?_⟩
  refine wpAny_letOwnedTupleGo_zip (s:={s with heap:=h'}) (TI:=TI) (TO:=TO) hz' fun h3 hz3 sb3=>?_
  have k3:∀ b o,b∉[z,TI,TO,i1,i2]→s.heap.get? b=some o→h3.get? b=some o:=fun b o nb q=>(sb3.2 b (fun e=>nb (by simp [e]))).trans (hk b o (fun e=>nb (by simp [e])) (fun e=>nb (by simp [e])) (fun e=>nb (by simp [e])) (fun e=>nb (by simp [e])) q)
  have lo:∀ b∈[z,TI,TO,i1,i2],cB X pins H b:=fun b hb=>(hf b hb).loose
  have nF:∀ b∈[z,TI,TO,i1,i2],b∉frs X.stack:=fun b hb e=>by
   obtain⟨_,f1,f2,_⟩:=hf b hb
   exact(List.mem_cons.mp (I.stkSub b e)).elim f1 f2
  have I3:Inv X pins σ H {s with heap:=h3,toks:=s.toks}:=I.fly (t':=s.toks) lo (fun b o q n _=>k3 b o n q) fun b o q hb=>⟨o.slots,k3 b o (fun e=>nF b e hb) q⟩
  have hn:H s.heap.objs.size=none:=I.hok.fresh (Nat.le_refl _)
  have lt5:∀ b∈[z,TI,TO,i1,i2],b≠s.heap.objs.size:=fun b hb=>by
   simp only [List.mem_cons,List.not_mem_nil,or_false] at hb
   rcases hb with rfl | rfl | rfl | rfl | rfl
   ·exact Nat.ne_of_lt (Heap.lt_size hz)
   ·exact Nat.ne_of_lt (Heap.lt_size hTI)
   ·exact Nat.ne_of_lt (Heap.lt_size hTO)
   ·obtain⟨_,e1,_⟩:=h1; exact Nat.ne_of_lt (Heap.lt_size e1)
   ·obtain⟨_,e1,_⟩:=h2; exact Nat.ne_of_lt (Heap.lt_size e1)
  have hT3:h3.get? s.heap.objs.size=some {cls:=.type "tuple",data:=.seq #[u,u2]}:=(sb3.2 _ (Ne.symm (lt5 z (by simp)))).trans hT
  have lT:cB X pins H s.heap.objs.size:=I.loose (Heap.get?_none_of_le (Nat.le_refl _))
  have hok:aF X.prog X.w (upd H s.heap.objs.size (.tup [x,y])) h3 s.heap.objs.size (.tup [x,y]):=⟨(by show 2≤sizeLine; decide),[u,u2],.cons ru (.cons ru2 .nil),⟨_,hT3,rfl,0,rfl⟩⟩
  have up:∀ b o,b≠z→h'.get? b=some o→h3.get? b=some o:=fun b o n e=>(sb3.2 b n).trans e
  obtain⟨a3,c3,hTO3⟩:=hTO'
  obtain⟨o1,e1,r1⟩:=a'.1
  obtain⟨o2,e2,r2⟩:=b'.1
  refine⟨.ref s.heap.objs.size,upd H s.heap.objs.size (.tup [x,y]),I3.trackO lT hok,rfl,⟨_,x,y,hn,rfl,rfl,fun zs hs=>by rw [I.list_inj hs hq]; exact hx,fun zs hs=>by rw [I.tuple_inj hs hq2]; exact hy⟩,⟨hz3,up _ _ D.TIz hTI',⟨a3,c3,up _ _ D.TOz hTO3⟩,⟨o1,up _ _ D.i1z e1,r1⟩,⟨o2,up _ _ D.i2z e2,r2⟩⟩,fun b hb=>?_⟩
  rw [ad (lt5 b hb)]; exact(hf b hb).1
 done:=by
  intro X hP hw hK hc i pins s σ H E I hf st hg
  subst hP hw hK
  obtain⟨xs,ys,hq,hq2,hx⟩:=hg
  obtain⟨its,rv,pl,hz1⟩:=I.list hq
  obtain⟨jts,rv2,pl2,hz2⟩:=I.tuple hq2
  obtain⟨hz,hTI,hTO,h1,h2⟩:=st
  have hl:=rv.length
  have F1:=jS (P:=X.prog) (w:=X.w) i1 l1 its.toArray D.l1i1
  refine yY (It1:=fun k h=>h.IsListIter i1 l1 k∧h.IsList l1 its.toArray) (It2:=fun k h=>h.IsTupleIter i2 l2 k∧h.IsTuple l2 jts.toArray) (I.ok.hd hc) D F1 ⟨⟨_,_,hz,.inl rfl⟩,hTI,hTO,⟨h1,pl.isList⟩,⟨h2,pl2⟩⟩ (by simp; omega) fun h' hk=>⟨rfl,?_⟩
  have lo:∀ b∈[z,TI,TO,i1,i2],cB X pins H b:=fun b hb=>(hf b hb).loose
  have nF:∀ b∈[z,TI,TO,i1,i2],b∉frs X.stack:=fun b hb e=>by
   obtain⟨_,f1,f2,_⟩:=hf b hb
   exact(List.mem_cons.mp (I.stkSub b e)).elim f1 f2
  have k3:∀ b o,b∉[z,TI,TO,i1,i2]→s.heap.get? b=some o→h'.get? b=some o:=fun b o nb q=>hk b o (fun e=>nb (by simp [e])) (fun e=>nb (by simp [e])) (fun e=>nb (by simp [e])) (fun e=>nb (by simp [e])) q
  exact I.fly (t':=s.toks) lo (fun b o q n _=>k3 b o n q) fun b o q hb=>⟨o.slots,k3 b o (fun e=>nF b e hb) q⟩
 self:=fun _ _ _ _ _ st h=>wpAny_pyIter_zip st.1 h
section
variable{X:Cx}{elts:List Expr}{k:Nat}{tpos:Pos}
inductive iZipI(K:PySem.W.Frag)(R:(It→Hp→Prop))(vs:List V)(H1:Hp):Prop where
 | mk:∀ a b xs ys,vs=[.ref a,.ref b]→SqL K H1 a xs→SqT K H1 b ys→R (Itz K a b) H1→iZipI K R vs H1
def AM(K:PySem.W.Frag)(ta:TA):TI:=fun σ H R=>ta σ H fun vs H1=>iZipI K R vs H1
theorem xT{e1 e2:Expr}{ta:TA}{p pos:Pos}(hg:Gl X "zip")(hm:X.mg "zip"=none)(ha:PA X [e1,e2] ta)(hs:starEach [e1,e2] X.env=(false,eval e1 X.env)::starEach [e2] X.env:=by rfl)(hpl:(backTo pos (starEach [e2] X.env)).any (·.1)=false:=by rfl):
  PI X (.Tuple elts k tpos) (.Call (.Name "zip" p) [e1,e2] [] pos) (AM X.K ta):=by
 intro pins s σ H R I h
 refine Call_ (fH I hg hm yN (PyProof.Rows.callWith_type1 (thn (ha pos pins s σ H _ I h) fun us s1 ⟨vs,H1,I1,r1,q1⟩=>?_) hs hpl))
 obtain⟨a,b,xs,ys,e,hq,hq2,q⟩:=q1
 subst e
 obtain⟨u,v,rfl,ru,rv⟩:=jo r1
 cases ru
 cases rv
 obtain⟨its,r',pl,hz⟩:=I1.list hq
 obtain⟨jts,r2,pl2,hz2⟩:=I1.tuple hq2
 have hal:a<s1.heap.objs.size:=by obtain⟨o,ho,_⟩:=pl.isList; exact Heap.lt_size ho
 have hbl:b<s1.heap.objs.size:=by obtain⟨o,ho,_⟩:=pl2; exact Heap.lt_size ho
 refine qT pl.isList pl2 fun h' hZ hTI hTO hI1 hI2 hk=>?_
 refine wpAny_pyIter_zip hZ ?_
 refine⟨s1.heap.objs.size+4,[s1.heap.objs.size+4,s1.heap.objs.size+2,s1.heap.objs.size+3,s1.heap.objs.size,s1.heap.objs.size+1],_,_,H1,rfl,I1.kept (t':=s1.toks) hk,rm (zipApart_new hal hbl),⟨hZ,hTI,⟨_,_,hTO⟩,hI1,hI2⟩,fun c hc=>?_,q⟩
 have hc':s1.heap.objs.size≤c:=by
  simp only [List.mem_cons,List.not_mem_nil,or_false] at hc
  rcases hc with rfl | rfl | rfl | rfl | rfl
  ·exact Nat.le_add_right _ 4
  ·exact Nat.le_add_right _ 2
  ·exact Nat.le_add_right _ 3
  ·exact Nat.le_refl _
  ·exact Nat.le_add_right _ 1
 exact I1.fpOk hc' (I1.hok.fresh hc')
end
section
variable{X:Cx}{pins:List (Addr×Obj)}{σ:St}{H:Hp}{s:Shared}
theorem pS{M:Model}{A:Around}{E:Value→Shared→Prop}{i:Nat}{x:Str}{v:V}{u:Value}{Q:Unit→Shared→Prop}(I:Inv X pins σ H s)(hN:X.N.Nodup)(hi:X.N[i]? = some x)(hk:X.env.scope.names.lookup x=some .local)(r:az v u)
  (h:∀ s',Inv X pins (σ.set i (some v)) H s'→0<s'.toks→Q () s'):wpAny M A (storeName X.env x u) Q E s:=by
 obtain⟨m,hn,hl⟩:=id I.loc
 have hcls:(X.env.scope.kind==.class||(X.env.scope.kind==.module&&X.env.locals != X.env.globals))=false:=by rw [I.ok.kind]; rfl
 have hiσ:i<σ.length:=by rw [I.len]; exact(List.getElem?_eq_some_iff.mp hi).1
 have cne:=I.cne
 have tracked:∀ {a:Addr} {h':Heap},(∃ o,s.heap.get? a=some o∧H a=none)→Heap.SameBut a s.heap h'→HOk X.prog X.w H h':=fun {a h'} ha hs b ob e=>by
  obtain⟨_,_,hfree⟩:=ha
  refine(I.hok b ob e).stay (fun c w' hc q=>(hs.2 c ?_).trans q) (fun _ q=>q) fun _ _ q=>q
  rintro rfl
  rcases hc with rfl | hc
  ·rw [hfree] at e; cases e
  ·rw [hfree] at hc; cases hc
 refine wpAny_storeName_local hk hn (fun h' hn' hs=>?_) hcls
 obtain⟨oL,_,_,hoL,_⟩:=id hn
 refine h _ ⟨I.ok,I.os,I.bare,⟨fun b o e n hb hx=>?_,fun b o e n hb hx=>?_,I.base.free,fun b o e hx=>?_,I.base.tups,I.base.frzs,I.base.tbls⟩,⟨_,hn',fun j y v' e1 e2 e3=>?_⟩,fun y c e=>?_,I.free,I.freeC,fun p hp=>?_,tracked ⟨oL,hoL,I.free⟩ hs,by simpa using I.len⟩ (Nat.succ_pos _)
 ·exact(hs.2 b (Nat.ne_of_lt (Nat.lt_of_lt_of_le (Heap.lt_size e) I.ok.above))).trans (I.base.keep b o e n hb hx)
 ·obtain⟨sl,e1⟩:=I.base.slot b o e n hb hx
  exact⟨sl,(hs.2 b (Nat.ne_of_lt (Nat.lt_of_lt_of_le (Heap.lt_size e) I.ok.above))).trans e1⟩
 ·obtain⟨o',e1⟩:=I.base.there b o e hx
  exact⟨o',(hs.2 b (Nat.ne_of_lt (Nat.lt_of_lt_of_le (Heap.lt_size e) I.ok.above))).trans e1⟩
 ·by_cases hj:j=i
  ·subst hj
   rw [hi] at e1; cases e1
   rw [List.getElem?_set_self hiσ] at e2
   cases e2
   exact⟨u,r,.inl ⟨hk,by simp⟩⟩
  ·rw [List.getElem?_set_ne (Ne.symm hj)] at e2
   obtain⟨u',r',q⟩:=hl j y v' e1 e2 e3
   refine⟨u',r',?_⟩
   rcases q with ⟨k,e⟩ | ⟨k,c,e,z⟩
   ·refine .inl ⟨k,?_⟩
    have : y≠x:=fun e=>hj (iP hN e1 (e▸hi))
    simp [this,e]
   ·exact .inr ⟨k,c,e,z.sameBut hs (cne y c e)⟩
 ·obtain⟨w',z⟩:=I.cell y c e
  exact⟨w',z.sameBut hs (cne y c e)⟩
 ·obtain⟨e,n,ne,nf,d⟩:=I.pin p hp
  exact⟨(hs.2 p.1 ne).trans e,n,ne,nf,d⟩
end
def PST(X:Cx)(st:Stmt)(t:TS):Prop:=
 ∀ (pins:List (Addr×Obj)) (s:Shared) (σ:St) (H:Hp) (D:dn),0<s.toks→Inv X pins σ H s→t D σ H→wpAny (model X.prog X.w) X.A (exec st X.env) (SP X pins D) X.xe s
def Ae(X:Cx)(st:List Stmt)(t:TS):Prop:=
 ∀ (pins:List (Addr×Obj)) (s:Shared) (σ:St) (H:Hp) (D:dn),0<s.toks→Inv X pins σ H s→t D σ H→wpAny (model X.prog X.w) X.A (execs st X.env) (SP X pins D) X.xe s
def PIT(X:Cx)(tg iter:Expr)(wi:TI):Prop:=
 ∀ (pins:List (Addr×Obj)) (s:Shared) (σ:St) (H:Hp) (R:It→Hp→Prop),0<s.toks→Inv X pins σ H s→wi σ H R→
  wpAny (model X.prog X.w) X.A (eval iter X.env) (fun v s1=>wpAny (model X.prog X.w) X.A (pyIter v) (PIE X pins σ tg R) X.xe s1) X.xe s
def PET(X:Cx)(e:Expr)(t:TE):Prop:=
 ∀ (pins:List (Addr×Obj)) (s:Shared) (σ:St) (H:Hp) (Q:VK),0<s.toks→Inv X pins σ H s→t σ H Q→wpAny (model X.prog X.w) X.A (eval e X.env) (fun u s'=>EP X pins σ Q u s'∧0<s'.toks) X.xe s
section
variable{X:Cx}{tg:Expr}
theorem vp{iter:Expr}{body:List Stmt}{wi:TI}{g:TG}{tb:TS}{pos:Pos}(hp:PassesOwn (model X.prog X.w) X.A X.env X.xe)(hc:X.calm=true)(hi:PIT X tg iter wi)(hg:PG X tg g)(hb:PSs X body tb)
  (hs:∀ x,foldedSetIterable iter X.env x=pure x:=by intro _; rfl):PST X (.For tg iter body [] pos) (y8 wi g tb):=by
 intro pins s σ H D ht I h
 refine wpAny_For (thn (hi pins s σ H _ ht I h) fun v s1 h1=>thn h1 fun itv s2 h2=>?_) hs
 obtain⟨it,fp,tn,J,H2,e,I2,T,st2,f2,W,⟨m0,w0⟩,turn⟩:=h2
 subst e
 have stat:∀ {H':Hp},(∀ b∈fp,H' b=none)→∀ b∈fp,dS X pins H' b:=fun hn b hb=>⟨hn b hb,(f2 b hb).2⟩
 refine codeAny_forLoop_any (fun n s'=>∃ i σ' H',Inv X pins σ' H' s'∧tn i s'.heap∧(∀ b∈fp,H' b=none)∧W i n σ' H') ?_ m0 ⟨0,σ,H2,I2,st2,fun b hb=>(f2 b hb).1,w0⟩
 rintro n s3 ⟨i,σ3,H3,I3,st3,fr3,w3⟩
 rcases turn i n σ3 H3 w3 with ⟨stop,qn⟩ | ⟨go,N,hN,step⟩
 ·refine wpAny_passesOwn hp (thn (T.done X rfl rfl rfl hc i pins s3 σ3 H3 X.xe I3 (stat fr3) st3 stop) fun r s4 ⟨hr,I4⟩=>?_)
  subst hr
  exact wpAny_execs_nil ⟨σ3,H3,I4,qn⟩
 ·refine wpAny_passesOwn hp (thn (T.item X rfl rfl rfl hc i pins s3 σ3 H3 X.xe I3 (stat fr3) st3 go) fun r s4 ⟨u,hr,h4⟩=>?_)
  subst hr
  refine wpAny_passesOwn hp (thn h4 fun _ s5 ⟨x,H5,I5,r5,y5,st5,fr5⟩=>?_)
  have I5':=I5.pinned (stat fr5) (T.obj _ _ st5)
  refine wpAny_passesOwn hp (thn (hg _ s5 σ3 H5 x u _ I5' r5 (step x H5 y5)) fun _ s6 ⟨σ6,H6,I6,q6⟩=>?_)
  refine wpAny_passesOwn hp (thn (hb _ s6 σ6 H6 _ I6 q6) fun f s7 q7=>?_)
  have again:∀ {σ7:St} {H7:Hp},Inv X (pins++bW fp s5.heap) σ7 H7 s7→N σ7 H7→∃ m,m<n∧∃ i σ' H',Inv X pins σ' H' s7∧tn i s7.heap∧(∀ b∈fp,H' b=none)∧W i m σ' H':=fun {σ7 H7} I7 n7=>by
   obtain⟨m',hm,w7⟩:=hN σ7 H7 n7
   refine⟨m',hm,i+1,σ7,H7,I7.unpinned,T.keep _ _ _ st5 fun b hb o e=>(I7.pin (b,o) (List.mem_append_right _ (List.mem_append_right _ (aP hb e)))).1,fun b hb=>?_,w7⟩
   obtain⟨o,e,d⟩:=T.obj _ _ st5 b hb
   exact(I7.pin (b,o) (List.mem_append_right _ (List.mem_append_right _ (aP hb e)))).2.1
  cases f with
  | next=>obtain⟨σ7,H7,I7,n7⟩:=q7; exact again I7 n7
  | cont=>obtain⟨σ7,H7,I7,n7⟩:=q7; exact again I7 n7
  | brk=>obtain⟨σ7,H7,I7,q7⟩:=q7; exact⟨σ7,H7,I7.unpinned,q7⟩
  | ret v=>obtain⟨x7,σ7,H7,I7,r7,q7⟩:=q7; exact⟨x7,σ7,H7,I7.unpinned,r7,q7⟩
end
end L2
namespace L2
open PySem PySem.Spec PyProof.Rows PySem.Builtin.Str
section
variable{P:Program}{w:World}{A:Around}{E:Value→Shared→Prop}{s:Shared}
theorem sH{x y z:Str}{t u v:Tok}{Q:Value→Shared→Prop}(hu:u≠0)(hv:v≠0)(huv:u≠v)(hyz:(y==z)=false)(hb:x.length+(x.length+1)*z.length≤16777216)
  (hq:∀ t' k,s.toks≤k→Q (.str (Txt.replace x y z) t') {s with toks:=k}):wpAny (model P w) A (call (.builtin "str.replace") [.str x t,.str y u,.str z v]) Q E s:=by
 have occ:=StrLaws.occ_length_le x y 0 x.length (x.length+1)
 have hl:tooLong (x.length+(occurrences x y 0 x.length (x.length+1)).length*z.length)=false:=by
  have h2:=Nat.mul_le_mul_right z.length occ
  have e:(2:Nat) ^ 24=16777216:=by decide
  unfold tooLong sizeLine
  exact decide_eq_false (by omega)
 refine call_gives F.slot_str_replace (typeIs_str _ _ _) F.entry_str_replace (F.args_str_replace_3 _ _ _) (gives_str_replace x y z t u v fun _=>⟨by simp [hu,hv],by simp [huv],hyz,hl⟩) ?_
 unfold Txt.replace at hq
 split
 ·rename_i h
  rw [if_pos h] at hq
  exact hq t s.toks (Nat.le_refl _)
 ·rename_i h
  rw [if_neg h] at hq
  exact⟨fits_replaced y hb,hq _ _ (Nat.le_succ _)⟩
end
section
variable{X:Cx}
theorem vB{i:Nat}{x:Str}{pos:Pos}(hN:X.N[i]? = some x)(hk:X.env.scope.names.lookup x=some .local)(hd:(x==("__debug__":Str))=false):PET X (.Name x pos) (cT i):=by
 intro pins s σ H Q ht I h
 obtain⟨v,e,h⟩:=h
 obtain⟨m,hn,hl⟩:=I.loc
 obtain⟨u,r,l⟩:=hl i x v hN e (.inl hk)
 rcases l with ⟨hk',hm⟩ | ⟨hk',c,hc,hcell⟩
 ·exact wpAny_Name (wpAny_loadName_local I.ok.kind hk' hn hm ⟨⟨v,H,I,r,h⟩,ht⟩) hd
 ·have hk2:X.env.kindOf x=some .local:=hk
  rcases hk' with z | z <;> (rw [z] at hk2; cases hk2)
inductive tReplI(a:Str)(b:Str)(Q:VK)(x:V)(H1:Hp):Prop where
 | mk:∀ z:Str,x=.str z→z.length+(z.length+1)*b.length≤16777216→(a==b)=false→Q (.str (Txt.replace z a b)) H1→tReplI a b Q x H1
def y4(a b:Str)(to:TE):TE:=fun σ H Q=>to σ H fun x H1=>tReplI a b Q x H1
theorem gZ{o:Expr}{to:TE}{a b:Str}{ja jb:Nat}{pa pb apos cpos:Pos}(ho:PET X o to)
  (hbase:attributeBase o "replace" X.env (eval o X.env)=eval o X.env:=by rfl)
  (hline:(apos.endLine==cpos.line)=true:=by rfl) :
  PET X (.Call (.Attribute o "replace" apos) [.Constant (.str a) ja pa,.Constant (.str b) jb pb] [] cpos) (y4 a b to):=by
 intro pins s σ H Q ht I h
 refine wpAny_Call_method_late hbase (by rfl) hline rfl (thn (ho pins s σ H _ ht I h) fun v s1 ⟨⟨x,H1,I1,r1,z,ez,hb,hab,q1⟩,ht1⟩=>?_)
 subst ez
 obtain⟨t,rfl⟩:=r1
 refine⟨"str","str.replace",F.plainAttrs_str,F.slot_str_replace,F.type_str_replace,typeIs_str _ _ _,(fun _ e=>nomatch e),?_⟩
 have hst:starEach [.Constant (.str a) ja pa,.Constant (.str b) jb pb] X.env=[(false,eval (.Constant (.str a) ja pa) X.env),(false,eval (.Constant (.str b) jb pb) X.env)]:=by rfl
 rw [hst]
 refine Calls.callWith_builtin (by rfl) (Calls.evalArgs_plain ?_)
 show wpAny _ _ (spliced [(false,eval (.Constant (.str a) ja pa) X.env),(false,eval (.Constant (.str b) jb pb) X.env)]) _ _ _
 refine Calls.spliced_cons (wpAny_Constant_str (Calls.spliced_cons (wpAny_Constant_str (Calls.spliced_nil ?_))))
 refine sH (s:={s1 with toks:=s1.toks+1+1}) (Nat.pos_iff_ne_zero.mp ht1) (Nat.succ_ne_zero _) (Nat.ne_of_lt (Nat.lt_succ_self _)) hab hb fun t' k hk=>⟨⟨.str (Txt.replace z a b),H1,I1.tok k,⟨t',rfl⟩,q1⟩,?_⟩
 exact Nat.lt_of_lt_of_le (Nat.succ_pos _) hk
inductive iSplitI(K:PySem.W.Frag)(c:Str)(R:(It→Hp→Prop))(x:V)(H1:Hp):Prop where
 | mk:∀ z:Str,x=.str z→(c.length==0)=false→z.length<sizeLine→(Txt.split z c).length≤sizeLine→(∀ l,H1 l=none→R (Itl K l) (upd H1 l (.lst ((Txt.split z c).map V.str))))→iSplitI K c R x H1
def yG(K:PySem.W.Frag)(c:Str)(to:TE):TI:=fun σ H R=>to σ H fun x H1=>iSplitI K c R x H1
theorem sS{i:Nat}{x:Str}{e:Expr}{te:TE}{pos pos':Pos}{rest:List Stmt}{t:TS}(hN:X.N.Nodup)(hi:X.N[i]? = some x)(hk:X.env.scope.names.lookup x=some .local)(he:PE X e te)(hr:Ae X rest t)(hs:swapsWith e (some (.Name x pos')) pos.line X.env=pure false:=by rfl):
  PSs X (.Assign [.Name x pos'] e pos::rest) (u3 (j4 te (aV i)) t):=by
 intro pins s σ H D I h
 refine wpAny_execs_cons ?_
 refine wpAny_Assign_Name (thn (he pins s σ H _ I h) fun v s1 ⟨y,H1,I1,r1,q1⟩=>?_) hs
 exact pS I1 hN hi hk r1 fun s2 I2 ht2=>hr pins s2 _ H1 D ht2 I2 q1
theorem pZ{st:Stmt}{rest:List Stmt}{t u:TS}(h1:PST X st t)(h2:PSs X rest u):Ae X (st::rest) (u3 t u):=by
 intro pins s σ H D ht I h
 refine wpAny_execs_cons (thn (h1 pins s σ H {D with nx:=u D} ht I h) fun f s1 q=>?_)
 cases f with
 | next=>
  obtain⟨σ',H',I',q⟩:=q
  exact h2 pins s1 σ' H' D I' q
 | ret v=>exact q
 | brk=>exact q
 | cont=>exact q
theorem qb{tg o:Expr}{to:TE}{c:Str}{jc:Nat}{pc apos cpos:Pos}(ho:PET X o to)
  (hbase:attributeBase o "split" X.env (eval o X.env)=eval o X.env:=by rfl) (hline:(apos.endLine==cpos.line)=true:=by rfl) :
  PIT X tg (.Call (.Attribute o "split" apos) [.Constant (.str c) jc pc] [] cpos) (yG X.K c to):=by
 intro pins s σ H R ht I h
 refine wpAny_Call_method_late hbase (by rfl) hline rfl (thn (ho pins s σ H _ ht I h) fun v s1 ⟨⟨x,H1,I1,r1,z,ez,hc,hz,hn,q1⟩,ht1⟩=>?_)
 subst ez
 obtain⟨t,rfl⟩:=r1
 refine⟨"str","str.split",F.plainAttrs_str,F.slot_str_split,F.type_str_split,typeIs_str _ _ _,(fun _ e=>nomatch e),?_⟩
 have hst:starEach [.Constant (.str c) jc pc] X.env=[(false,eval (.Constant (.str c) jc pc) X.env)]:=by rfl
 rw [hst]
 refine Calls.callWith_builtin (by rfl) (Calls.evalArgs_plain ?_)
 show wpAny _ _ (spliced [(false,eval (.Constant (.str c) jc pc) X.env)]) _ _ _
 refine Calls.spliced_cons (wpAny_Constant_str (Calls.spliced_nil ?_))
 refine thn (lZ (X:=X) pins {s1 with toks:=s1.toks+1} σ H1 (.str z) [.str c] (.str z t) [.str c s1.toks] (fun x H2=>∃ a,x=.ref a∧(∃ xs,SqL X.K H2 a xs)∧R (Itl X.K a) H2) (I1.tok _) ⟨t,rfl⟩ (.cons ⟨_,rfl⟩ .nil) ⟨z,c,rfl,rfl,hc,hz,hn,fun l hl=>⟨l,rfl,⟨_,SqL.of aa⟩,q1 l hl⟩⟩) fun v s2 ⟨x,H2,I2,r2,q2⟩=>?_
 obtain⟨a,e,⟨xs,hq⟩,q⟩:=q2
 subst e
 cases r2
 obtain⟨its,rv,p,hz'⟩:=I2.list hq
 refine wpAny_pyIter_list p.isList ?_
 refine⟨s2.heap.objs.size,[s2.heap.objs.size],_,_,H2,rfl,I2.kept (t':=s2.toks) fun b o e=>Heap.get?_push_of_some _ e,jq a _,⟨_,Heap.get?_push_size _ rfl,rfl,rfl⟩,fun b hb=>?_,q⟩
 have e:b=s2.heap.objs.size:=by simpa using hb
 subst e
 exact I2.fpOk (Nat.le_refl _) (I2.hok.fresh (Nat.le_refl _))
end
end L2
set_option maxHeartbeats 4000000
namespace L2
open PySem PySem.Spec PyProof.Rows
theorem q9{prog:Program}{w:World}{A:Around}(hh:A.handled=none)(it l:Addr)(hne:l≠it)(items:Array Value):
  Draws prog w A it [it,l] items.size (fun i v=>items[i]? = some v) (fun i h=>h.IsTupleIter it l i∧h.IsTuple l items) where
 live:=fun _ _ st=>let ⟨o,ho,_⟩:=st.1; ⟨o,ho⟩
 frame:=fun i h h' st hk=>(dD (P:=prog) (w:=w) it l items hne).keep h h' i st fun b hb o e=>hk b (by simpa using hb) o e
 item:=fun i s Q E hi st hQ=>by
  refine(dD (P:=prog) (w:=w) it l items hne).item _ s i items[i] _ _ st (by simp [hi]) fun h' hit' hs'=>?_
  exact hQ _ h' s.toks (by simp [hi]) hit' hs'
 done:=fun s Q E st hE=>(dD (P:=prog) (w:=w) it l items hne).fin _ s _ _ _ hh st (by simp) hE
theorem kS{prog:Program}{w:World}{A:Around}(hh:A.handled=none)(it l:Addr)(hne:l≠it)(items:Array Value)(n:Nat)(hn:items[n]? = none):
  Draws prog w A it [it,l] n (fun _ _=>False) (fun i h=>i=n∧h.IsTupleIter it l i∧h.IsTuple l items) where
 live:=fun _ _ st=>let ⟨o,ho,_⟩:=st.2.1; ⟨o,ho⟩
 frame:=fun i h h' st hk=>⟨st.1,(dD (P:=prog) (w:=w) it l items hne).keep h h' i st.2 fun b hb o e=>hk b (by simpa using hb) o e⟩
 item:=fun i s Q E hi st hQ=>absurd st.1 (Nat.ne_of_lt hi)
 done:=fun s Q E st hE=>(dD (P:=prog) (w:=w) it l items hne).fin _ s _ _ _ hh st.2 hn hE
theorem jg(l:Addr)(its:Array Value)(n:Nat)(dc:Option Addr)(sl:Array (Option Value)):
  Meets (Builtin.«enumerate.__new__» ⟨[.type "enumerate",.ref l],[]⟩) (fun _ R s=>s.heap.get? l=some {cls:=.type "tuple",dict:=dc,data:=.seq its n,slots:=sl}∧
   R (.ok (.ret (.ref (s.heap.push {cls:=.type "tuple_iterator",data:=.fields #[.ref l,.int 0 0]}).objs.size)))
    {s with heap:=(s.heap.push {cls:=.type "tuple_iterator",data:=.fields #[.ref l,.int 0 0]}).push {cls:=.type "enumerate",data:=.fields #[.none,.bool false,.ref s.heap.objs.size,rawInt 0,.none,.none]}}):=
 .of_wp fun prog w A R s h=>by
  obtain⟨hp,g,d,tk,os⟩:=s
  obtain⟨hl,h⟩:=h
  have sub:=sub_enumerate
  have ht:Heap.IsTuple (Shared.heap ⟨hp,g,d,tk,os⟩) l its:=⟨_,hl,rfl,n,rfl⟩
  wp_walk using AutoSeq1.wpAny_loadPart' hl
  refine wpAny_stack_any fun st=>wpAny_pure ?_
  split
  ·rename_i c _ _ _ _ _
   cases (c==Value.type "enumerate") <;> (wp_walk using AutoSeq1.wpAny_loadPart' hl,wpAny_pyIter_tuple ht; exact⟨_,rfl,h⟩)
  ·wp_walk using AutoSeq1.wpAny_loadPart' hl,wpAny_pyIter_tuple ht
   exact⟨_,rfl,h⟩
theorem fN{prog:Program}{w:World}{A:Around}{E:Value→Shared→Prop}{s:Shared}{l:Addr}{its:Array Value}{Q:Value→Shared→Prop}(ht:s.heap.IsTuple l its)
  (h:∀ h',IsEnum h' (s.heap.objs.size+1) s.heap.objs.size 0 .none→h'.IsTupleIter s.heap.objs.size l 0→h'.objs.size=s.heap.objs.size+2→
   (∀ b o,s.heap.get? b=some o→h'.get? b=some o)→Q (.ref (s.heap.objs.size+1)) {s with heap:=h'}) :
  wpAny (model prog w) A (call (.type "enumerate") [.ref l]) Q E s:=by
 obtain⟨⟨c,dc,dt,sl⟩,hl,hc,n,hd⟩:=ht
 replace hc:c=.type "tuple":=hc
 replace hd:dt=.seq its n:=hd
 subst hc hd
 refine callType_new F.called_enumerate (by decide) (F.typeCall_enumerate_1 _) (F.newCall_enumerate_1 _) (fun obj=>F.args_object_init_2 obj _) F.entry_enumerate_new (jg l its n dc sl) ⟨hl,?_⟩
 have z:=Heap.size_push s.heap {cls:=.type "tuple_iterator",data:=.fields #[.ref l,.int 0 0]}
 have he:=Heap.get?_push_size (s.heap.push {cls:=.type "tuple_iterator",data:=.fields #[.ref l,.int 0 0]}) (o:={cls:=.type "enumerate",data:=.fields #[.none,.bool false,.ref s.heap.objs.size,rawInt 0,.none,.none]}) rfl
 show _∧_
 rw [z] at he ⊢
 exact⟨⟨_,he,rfl⟩,h _ he ⟨_,Heap.get?_push_of_some _ (Heap.get?_push_size _ rfl),rfl,rfl⟩ (by rw [Heap.size_push,z]) fun b o x=>Heap.get?_push_of_some _ (Heap.get?_push_of_some _ x)⟩
def uU(K:PySem.W.Frag)(a:Addr):It:=
 ⟨fun i H=>∃ xs x,SqT K H a xs∧xs[i]? = some x,fun i H v H'=>∃ p y,H p=none∧v=.ref p∧H'=upd H p (.tup [.int i,y])∧∀ xs,SqT K H a xs→xs[i]? = some y,fun i H=>∃ xs,SqT K H a xs∧xs.length≤i⟩
theorem mY{P:Program}{w:World}{K:PySem.W.Frag}{elts:List Expr}{k:Nat}{tpos:Pos}(a it e:Addr)(hei:e≠it):ic P w K (.Tuple elts k tpos) (uU K a) [e,it] e (fun i h=>(∃ old,IsEnum h e it i old)∧h.IsTupleIter it a i) where
 mem:=by simp
 obj:=fun i h st b hb=>by
  obtain⟨⟨old,he⟩,o,e1,_,d1⟩:=st
  rcases List.mem_cons.mp hb with rfl | hb
  ·exact⟨_,he,fun v z=>by cases z⟩
  ·rw [List.mem_singleton.mp hb]
   exact⟨o,e1,fun v z=>by rw [d1] at z; cases z⟩
 keep:=fun i h h' st k=>by
  obtain⟨⟨old,he⟩,o,e1,r⟩:=st
  exact⟨⟨old,k e (by simp) _ he⟩,o,k it (by simp) o e1,r⟩
 item:=by
  intro X hP hw hK hc i pins s σ H E I hf st hg
  subst hP hw hK
  obtain⟨xs,x,hq,hx⟩:=hg
  obtain⟨its,rv,pl,hz⟩:=I.tuple hq
  obtain⟨u,hu,ru⟩:=rv.get hx
  obtain⟨⟨old,he⟩,hit⟩:=st
  have D:=q9 (prog:=X.prog) (w:=X.w) (A:=X.A.in1) (by simpa using I.ok.hd hc) it a (by
   rintro rfl
   obtain⟨_,e1,c1,_⟩:=hit
   obtain⟨_,e2,c2,_⟩:=pl
   rw [e1] at e2; cases e2
   rw [c1] at c2
   exact absurd (Value.type.inj c2) (by decide)) its.toArray
  have hi:i<its.toArray.size:=by simpa using (List.getElem?_eq_some_iff.mp hu).1
  have hea:e∉[it,a]:=by
   intro z
   rcases List.mem_cons.mp z with z | z
   ·exact hei z
   ·rw [List.mem_singleton.mp z] at he
    obtain⟨_,e2,c2,_⟩:=pl
    rw [he] at e2; cases e2
    exact absurd (Value.type.inj c2) (by decide)
  refine wpAny_pyNext_enum_itemD D he ⟨hit,show s.heap.IsTuple a its.toArray from pl⟩ hi hei hea fun x' h' tk hP ho hs' hT hsz hk=>?_
  obtain rfl:x'=u:=by
   have : its.toArray[i]? = some u:=by simpa using hu
   rw [this] at hP; exact(Option.some.inj hP).symm
  refine⟨_,rfl,?_⟩
  refine wpAny_letOwnedTupleGo_enum (s:={s with heap:=h',toks:=tk+1}) ho fun h2 he2 sb2=>?_
  have k2:∀ b o,b∉[e,it]→s.heap.get? b=some o→h2.get? b=some o:=fun b o nb q=>(sb2.2 b (fun z=>nb (by simp [z]))).trans (hk b o (fun z=>nb (by simp [z])) (fun z=>nb (by simp [z])) q)
  have lo:∀ b∈[e,it],cB X pins H b:=fun b hb=>(hf b hb).loose
  have nF:∀ b∈[e,it],b∉frs X.stack:=fun b hb z=>by
   obtain⟨_,f1,f2,_⟩:=hf b hb
   exact(List.mem_cons.mp (I.stkSub b z)).elim f1 f2
  have I2:Inv X pins σ H {s with heap:=h2,toks:=tk+1}:=I.fly (t':=tk+1) lo (fun b o q n _=>k2 b o n q) fun b o q hb=>⟨o.slots,k2 b o (fun z=>nF b z hb) q⟩
  have hn:H s.heap.objs.size=none:=I.hok.fresh (Nat.le_refl _)
  have hTn:s.heap.objs.size≠e:=Nat.ne_of_gt (Heap.lt_size he)
  have hT2:h2.get? s.heap.objs.size=some {cls:=.type "tuple",data:=.seq #[.int i tk,x']}:=(sb2.2 _ hTn).trans hT
  have lT:cB X pins H s.heap.objs.size:=I.loose (Heap.get?_none_of_le (Nat.le_refl _))
  have hok:aF X.prog X.w (upd H s.heap.objs.size (.tup [.int i,x])) h2 s.heap.objs.size (.tup [.int i,x]):=⟨(by show 2≤sizeLine; decide),[.int i tk,x'],.cons ⟨tk,rfl⟩ (.cons ru .nil),⟨_,hT2,rfl,0,rfl⟩⟩
  refine⟨.ref s.heap.objs.size,upd H s.heap.objs.size (.tup [.int i,x]),I2.trackO lT hok,rfl,⟨_,x,hn,rfl,rfl,fun ys hy=>by rw [I.tuple_inj hy hq]; exact hx⟩,⟨⟨_,by simpa using he2⟩,?_⟩,fun b hb=>?_⟩
  ·obtain⟨o,e1,r⟩:=hs'.1
   exact⟨o,(sb2.2 it (Ne.symm hei)).trans e1,r⟩
  ·have : b≠s.heap.objs.size:=by
    rcases List.mem_cons.mp hb with rfl | hb
    ·exact Ne.symm hTn
    ·rw [List.mem_singleton.mp hb]
     obtain⟨_,e1,_⟩:=hit
     exact Nat.ne_of_lt (Heap.lt_size e1)
   rw [ad this]; exact(hf b hb).1
 done:=by
  intro X hP hw hK hc i pins s σ H E I hf st hg
  subst hP hw hK
  obtain⟨xs,hq,hx⟩:=hg
  obtain⟨its,rv,pl,hz⟩:=I.tuple hq
  obtain⟨⟨old,he⟩,hit⟩:=st
  have hl:=rv.length
  have D:=kS (prog:=X.prog) (w:=X.w) (A:=X.A.in1) (by simpa using I.ok.hd hc) it a (by
   rintro rfl
   obtain⟨_,e1,c1,_⟩:=hit
   obtain⟨_,e2,c2,_⟩:=pl
   rw [e1] at e2; cases e2
   rw [c1] at c2
   exact absurd (Value.type.inj c2) (by decide)) its.toArray i (by simp; omega)
  refine wpAny_pyNext_enum_endD D he ⟨rfl,hit,show s.heap.IsTuple a its.toArray from pl⟩ fun h' eb=>⟨rfl,?_⟩
  obtain⟨f0,f1,f2,f3,f4,f5⟩:=hf it (by simp)
  exact I.turned (t':=s.toks) (fun b o hb e=>eb b o hb e) f0 f1 f3 f4 f5
 self:=fun _ _ _ _ _ st h=>by
  obtain⟨⟨old,he⟩,_⟩:=st
  exact wpAny_pyIter_enum he h
section
variable{X:Cx}{elts:List Expr}{k:Nat}{tpos:Pos}
inductive iEnumTI(K:PySem.W.Frag)(R:(It→Hp→Prop))(vs:List V)(H1:Hp):Prop where
 | mk:∀ a xs,vs=[.ref a]→SqT K H1 a xs→R (uU K a) H1→iEnumTI K R vs H1
def yH(K:PySem.W.Frag)(ta:TA):TI:=fun σ H R=>ta σ H fun vs H1=>iEnumTI K R vs H1
theorem sY{a:Expr}{ta:TA}{p pos:Pos}(hg:Gl X "enumerate")(hm:X.mg "enumerate"=none)(ha:PA X [a] ta)(hs:starEach [a] X.env=[(false,eval a X.env)]:=by rfl):PI X (.Tuple elts k tpos) (.Call (.Name "enumerate" p) [a] [] pos) (yH X.K ta):=by
 intro pins s σ H R I h
 refine Call_ (fH I hg hm jV (PyProof.Rows.callWith_type1 (thn (ha pos pins s σ H _ I h) fun us s1 ⟨vs,H1,I1,r1,q1⟩=>?_) hs rfl))
 obtain⟨b,xs,e,hq,q⟩:=q1
 subst e
 cases r1 with
 | cons r rr=>
  cases rr
  cases r
  obtain⟨its,rv,pl,hz⟩:=I1.tuple hq
  refine fN (show s1.heap.IsTuple b its.toArray from pl) fun h' hE hI hsz hk=>?_
  refine wpAny_pyIter_enum hE ?_
  refine⟨s1.heap.objs.size+1,[s1.heap.objs.size+1,s1.heap.objs.size],_,_,H1,rfl,I1.kept (t':=s1.toks) hk,mY b s1.heap.objs.size (s1.heap.objs.size+1) (Nat.succ_ne_self _),⟨⟨_,hE⟩,hI⟩,fun c hc=>?_,q⟩
  rcases List.mem_cons.mp hc with rfl | hc
  ·exact I1.fpOk (Nat.le_succ _) (I1.hok.fresh (Nat.le_succ _))
  ·rw [List.mem_singleton.mp hc]
   exact I1.fpOk (Nat.le_refl _) (I1.hok.fresh (Nat.le_refl _))
end
end L2
set_option maxHeartbeats 1000000
namespace L2
open PySem PySem.Spec PyProof.Rows
inductive rGetLI(K:PySem.W.Frag)(x:V)(y:V)(H:Hp)(Q:VK):Prop where
 | mk:∀ p xs i v,x=.ref p→y=.int i→0≤i→SqL K H p xs→atI xs i=some v→Q v H→rGetLI K x y H Q
def zn(K:PySem.W.Frag):R2:=fun x y H Q=>rGetLI K x y H Q
theorem uB{X:Cx}:Af X (zn X.K):=by
 intro pins s σ H x y v u Q I rx ry h
 obtain⟨p,xs,i,z,rfl,rfl,h0,hq,he,q⟩:=h
 cases rx
 obtain⟨t,rfl⟩:=ry
 obtain⟨its,r,pl,hz⟩:=I.list hq
 obtain⟨j,h1,h2,h3,h4,h5⟩:=iq he
 obtain⟨w,ew,rw'⟩:=r.get h2
 have hn:=eG
 have hl:=r.length
 have hj:i.toNat=j:=by
  rw [seqIndex_of h0 h5] at h1
  exact Option.some.inj h1
 exact wpAny_getItem_list pl.isList h0 (by omega) (by rw [hj]; simpa using ew) ⟨z,H,I,rw',q⟩
end L2
set_option maxHeartbeats 4000000
namespace L2
open PySem PySem.Spec PyProof.Rows
section
variable{X:Cx}{pins:List (Addr×Obj)}{σ:St}{H:Hp}{s:Shared}
theorem Inv.retell{a:Addr}{o u:HO}(I:Inv X pins σ H s)(e:H a=some o)(nt:∀ xs,o≠.tup xs)(no:∀ y,o≠.own y)(ntb:∀ ps,o≠.tbl ps)(nf:∀ ob v,X.H₀ a≠some (.frz ob v))(ok:aF X.prog X.w (upd H a u) s.heap a u):Inv X pins σ (upd H a u) s:=by
 have nn:∀ b,H b=none→b≠a:=fun b q=>Ne.symm (ae e q)
 have nu:∀ b v,H b=some v→o≠v→b≠a:=fun b v q n z=>by rw [z,e] at q; exact n (Option.some.inj q)
 refine⟨I.ok,I.os,I.bare,⟨I.base.keep,I.base.slot,fun b o q n hx=>?_,I.base.there,fun b xs q=>?_,fun b o xs q=>?_,fun b ps q=>?_⟩,I.loc,I.cell,?_,fun x c hc=>?_,fun p hp=>?_,fun b v q=>?_,I.len⟩
 ·have:=I.base.free b o q n hx
  rw [ad (nn b this)]; exact this
 ·have:=I.base.tups b xs q
  rw [ad (nu b _ this (nt xs))]; exact this
 ·rw [ad (fun z=>nf o xs (by rw [← z]; exact q))]; exact I.base.frzs b o xs q
 ·obtain⟨m,z⟩:=I.base.tbls b ps q
  exact⟨m,by rw [ad (nu b _ z (ntb _))]; exact z⟩
 ·rw [ad (nn _ I.free)]; exact I.free
 ·rw [ad (nn _ (I.freeC x c hc))]; exact I.freeC x c hc
 ·obtain⟨e1,n,r⟩:=I.pin p hp
  exact⟨e1,by rw [ad (nn _ n)]; exact n,r⟩
 ·by_cases hb:b=a
  ·subst hb
   rw [aa] at q; cases q
   exact ok
  ·rw [ad hb] at q
   exact(I.hok b v q).stay (fun _ _ _ z=>z) (fun c z=>by rw [ad (nu c _ z (no _))]; exact z) fun c xs z=>by rw [ad (nu c _ z (nt _))]; exact z
theorem Inv.freeze{a:Addr}{kvs:List (Key×V)}(I:Inv X pins σ H s)(e:H a=some (.dK kvs)):∃ ob,Inv X pins σ (upd H a (.frz ob (.dK kvs))) s∧∀ ob v,X.H₀ a≠some (.frz ob v):=by
 have nf:∀ ob v,X.H₀ a≠some (.frz ob v):=fun ob v z=>by have:=I.base.frzs a ob v z; rw [e] at this; cases this
 have ok:=I.hok a _ e
 obtain⟨z,y,vs,r,ob,es,ep,g,c⟩:=ok
 exact⟨ob,I.retell e (fun _ z=>nomatch z) (fun _ z=>nomatch z) (fun _ z=>nomatch z) nf ⟨g,z,y,vs,r,ob,es,ep,g,c⟩,nf⟩
theorem Inv.thaw{a:Addr}{ob:Obj}{kvs:List (Key×V)}(I:Inv X pins σ H s)(e:H a=some (.frz ob (.dK kvs)))(nf:∀ ob v,X.H₀ a≠some (.frz ob v)):Inv X pins σ (upd H a (.dK kvs)) s:=by
 obtain⟨g,z,y,vs,r⟩:=I.hok a _ e
 exact I.retell e (fun _ z=>nomatch z) (fun _ z=>nomatch z) (fun _ z=>nomatch z) nf ⟨z,y,vs,r⟩
inductive sFrzI(t:TS)(D:dn)(σ:St)(H:Hp):Prop where
 | mk:∀ a kvs,H a=some (.dK kvs)→(∀ ob,t {nx:=fun σ' H'=>H' a=some (.frz ob (.dK kvs))∧D.nx σ' (upd H' a (.dK kvs)),rt:=fun _ _=>False} σ (upd H a (.frz ob (.dK kvs))))→sFrzI t D σ H
def Ay(t:TS):TS:=fun D σ H=>sFrzI t D σ H
theorem xO{st:Stmt}{t:TS}(h:PS X st t):PS X st (Ay t):=by
 intro pins s σ H D I ⟨a,kvs,e,q⟩
 obtain⟨ob,I1,nf⟩:=I.freeze e
 refine thn (h pins s σ _ _ I1 (q ob)) fun f s' hf=>?_
 cases f with
 | next=>obtain⟨σ',H',I',e',q'⟩:=hf; exact⟨σ',_,I'.thaw e' nf,q'⟩
 | brk=>obtain⟨_,_,_,z⟩:=hf; exact z.elim
 | cont=>obtain⟨_,_,_,z⟩:=hf; exact z.elim
 | ret u=>obtain⟨_,_,_,_,_,z⟩:=hf; exact z.elim
def Itd(a:Addr)(ob:Obj):It:=
 ⟨fun i H=>∃ kvs,H a=some (.frz ob (.dK kvs))∧i<kvs.length,fun i H x H'=>H'=H∧∀ kvs,H a=some (.frz ob (.dK kvs))→∃ kv,kvs[i]? = some kv∧x=kV kv.1,fun i H=>∃ kvs,H a=some (.frz ob (.dK kvs))∧kvs.length=i⟩
theorem pz{a:Addr}{ob:Obj}{kvs:List (Key×V)}{es:Array DictEntry}{ep:Nat}(I:Inv X pins σ H s)(e:H a=some (.frz ob (.dK kvs)))(hd:ob.data=.dict es ep):Raw s.heap a es ep∧es.size=kvs.length∧∀ i (h:i<es.size),∃ kv,kvs[i]? = some kv∧az (kV kv.1) es[i].key:=by
 obtain⟨g,z,y,vs,r,o,es',ep',g',ex,d,_,pr,_⟩:=I.hok a _ e
 rw [g] at g'; cases g'
 rw [hd] at d; cases d
 have l1:=pr.length
 have l2:=r.length
 rw [Array.length_toList] at l1
 refine⟨⟨ob,g,ex,hd⟩,by omega,fun i h=>?_⟩
 have hv:i<vs.length:=by omega
 have hk:i<kvs.length:=by omega
 obtain⟨p1,_⟩:=pr.get? (i:=i) (e:=es[i]) (k:=vs[i].1) (v:=vs[i].2) (by simp [h]) (by simp [hv])
 refine⟨kvs[i],by simp [hk],?_⟩
 have e1:kvs[i].1=vs[i].1:=by
  have:=KV.keys r
  have:=congrArg (fun l=>l[i]?) this
  simpa [hk,hv] using this
 rw [e1]
 have p1:iU vs[i].1 es[i].key=true:=p1
 rcases aR p1 with ⟨j,t,q1,q2⟩ | ⟨x,t,q1,q2⟩
 ·rw [q1,q2]; exact⟨t,rfl⟩
 ·rw [q1,q2]; exact⟨t,rfl⟩
theorem pQ{P:Program}{w:World}{K:PySem.W.Frag}{tg:Expr}(a it:Addr)(ob:Obj){es:Array DictEntry}{ep:Nat}(hd:ob.data=.dict es ep):ic P w K tg (Itd a ob) [it] it (fun i h=>h.IsKeyIter it a i es.size ep) where
 mem:=by simp
 obj:=fun i h st b hb=>by
  have e:b=it:=by simpa using hb
  subst e
  obtain⟨o,e,c,d⟩:=st
  exact⟨o,e,fun v z=>by rw [d] at z; cases z⟩
 keep:=fun i h h' st k=>st.at fun o e=>k it (by simp) o e
 item:=by
  intro X hP hw hK hc i pins s σ H E I hf st hg
  subst hP hw hK
  obtain⟨kvs,hq,hi⟩:=hg
  obtain⟨raw,hz,hr⟩:=pz I hq hd
  obtain⟨f0,f1,f2,f3,f4,f5⟩:=hf it (by simp)
  have hi':i<es.size:=by omega
  refine sM st raw hi' fun h' st' sb=>?_
  have I1:Inv X pins σ H {s with heap:=h'}:=I.turned (t':=s.toks) (fun b o hb e=>(sb.2 b hb).trans e) f0 f1 f3 f4 f5
  obtain⟨kv,e1,e2⟩:=hr i hi'
  refine⟨_,rfl,letGo_keyiter (s':={s with heap:=h'}) st' ⟨kV kv.1,H,I1,e2,⟨rfl,fun kvs' hy=>?_⟩,st',fun b hb=>(hf b hb).1⟩⟩
  rw [hq] at hy; cases hy
  exact⟨kv,e1,rfl⟩
 done:=by
  intro X hP hw hK hc i pins s σ H E I hf st hg
  subst hP hw hK
  obtain⟨kvs,hq,hi⟩:=hg
  obtain⟨raw,hz,hr⟩:=pz I hq hd
  obtain⟨f0,f1,f2,f3,f4,f5⟩:=hf it (by simp)
  have hi':i=es.size:=by omega
  subst hi'
  exact vi (I.ok.hd hc) st raw fun h' eb=>⟨rfl,I.turned (t':=s.toks) (fun b o hb e=>eb b o hb e) f0 f1 f3 f4 f5⟩
 self:=fun _ _ _ _ _ st h=>wpAny_pyIter_keyiter st h
inductive iKeysI(R:(It→Hp→Prop))(x:V)(H1:Hp):Prop where
 | mk:∀ a ob kvs,x=.ref a→H1 a=some (.frz ob (.dK kvs))→R (Itd a ob) H1→iKeysI R x H1
def zP(tl:TE):TI:=fun σ H R=>tl σ H fun x H1=>iKeysI R x H1
theorem vz{tg l:Expr}{tl:TE}(hl:PE X l tl):PI X tg l (zP tl):=by
 intro pins s σ H R I h
 refine thn (hl pins s σ H _ I h) fun v s1 ⟨x,H1,I1,r1,q1⟩=>?_
 obtain⟨a,ob,kvs,e,hq,q⟩:=q1
 subst e
 cases r1
 obtain⟨g,z,y,vs,r,o,es,ep,g',ex,d,_⟩:=I1.hok a _ hq
 have : o=ob:=by rw [g] at g'; exact(Option.some.inj g').symm
 subst this
 refine sK y ⟨o,g,ex,d⟩ ?_
 refine⟨s1.heap.objs.size,[s1.heap.objs.size],_,_,H1,rfl,I1.kept (t':=s1.toks) fun b o e=>Heap.get?_push_of_some _ e,pQ a _ o d,⟨_,Heap.get?_push_size _ rfl,rfl,rfl⟩,fun b hb=>?_,q⟩
 have e:b=s1.heap.objs.size:=by simpa using hb
 subst e
 exact I1.fpOk (Nat.le_refl _) (I1.hok.fresh (Nat.le_refl _))
end
section
variable{X:Cx}{n:Nat}{N':List Str}{scope:Scope}{elt cnd tg iter:Expr}{pos:Pos}
theorem PT.wish{e:Expr}{t:TT}(h:PT X.nox e t)(E:Value→Shared→Prop):PT (X.wish E) e t:=PT.nox (X:=X.wish E) h
theorem gY{wi:TI}{g:aA TG}{tc:aA TT}{te:aA TE}{i:Nat}{x:Str}{pos' spos:Pos}(hN:X.N.Nodup)(hi0:X.N[i]? = some x)(hx:Loc X.env.scope x)
  (hsw:swapsWith (.ListComp elt [⟨tg,iter,[cnd],0⟩] scope pos) (some (.Name x pos')) spos.line X.env=pure true)
  (fr:gU X) (hc:X.calm=true) (S:aM n N' X.nox scope) (hi:PI X.nox tg iter wi)
  (hg:∀ cl C ex s H,PG (ao X.nox N' scope cl C ex s H) tg (g cl C ex s H)) (hcn:∀ cl C ex s H,PT (ao X.nox N' scope cl C ex s H) cnd (tc cl C ex s H)) (he:∀ cl C ex s H,PE (ao X.nox N' scope cl C ex s H) elt (te cl C ex s H))
  (hs:∀ x,foldedSetIterable iter X.env x=pure x:=by intro _; rfl) (hf:X.fn x=true∨X.env.scope.names.lookup x=some .local:=by first | exact .inl rfl | exact .inr rfl | assumption) :
  PS X.nox (.Assign [.Name x pos'] (.ListComp elt [⟨tg,iter,[cnd],0⟩] scope pos) spos) (j4 (rJ n wi g tc te) (aV i)):=by
 intro pins s σ H D I h
 have S':aM n N' X scope:=⟨S.kind,S.names,S.cell,S.free,S.nd,S.len,S.look⟩
 refine wpAny_mono (lJ (X:=X) (E0:=fun _ _ _=>False) hN hi0 hx hsw fr hc S' (hi.wish _) (fun cl C ex s H=>PG.wish (X:=ao X N' scope cl C ex s H) (hg cl C ex s H) _) (fun cl C ex s H=>PT.wish (X:=ao X N' scope cl C ex s H) (hcn cl C ex s H) _) (fun cl C ex s H=>PE.wish (X:=ao X N' scope cl C ex s H) (he cl C ex s H) _) hs hf pins s σ H D (I.unwish.wish _) h)
  (fun f s' z=>?_) fun e s z=>?_
 ·have:=z.unwish
  cases f with
  | next=>obtain⟨σ',H',I,q⟩:=this; exact⟨σ',H',I.wish _,q⟩
  | brk=>obtain⟨σ',H',I,q⟩:=this; exact⟨σ',H',I.wish _,q⟩
  | cont=>obtain⟨σ',H',I,q⟩:=this; exact⟨σ',H',I.wish _,q⟩
  | ret u=>obtain⟨v,σ',H',I,r,q⟩:=this; exact⟨v,σ',H',I.wish _,r,q⟩
 ·obtain⟨a,L,cls,σ',H',fl,S,env0,rest,h1,h2,h3,h4,h5,h6,h7,h8,hE⟩:=z
  exact hE
end
end L2
set_option maxHeartbeats 1000000
namespace L2
open PySem PySem.Spec PyProof.Rows
section
variable{X:Cx}
def kK:Value→Bool
 | .none=>true
 | _=>false
def Thg(K:PySem.W.Frag)(H:Hp)(v:V):Prop:=v=.non∨(∃ x,v=.str x)∨∃ a xs,v=.ref a∧SqT K H a xs
theorem mT{K:PySem.W.Frag}{H:Hp}:∀ {xs:List V} {us:List Value},aw xs us→(∀ v∈xs,Thg K H v)→us.any kK=xs.any fun v=>decide (v=.non)
 | _,_,.nil,_=>rfl
 | v::xs,u::us,.cons r t,f=>by
  rw [List.any_cons,List.any_cons,mT t fun y hy=>f y (List.mem_cons_of_mem _ hy)]
  congr 1
  rcases f v List.mem_cons_self with rfl | ⟨x,rfl⟩ | ⟨a,ys,rfl,_⟩
  ·cases r; rfl
  ·obtain⟨_,rfl⟩:=r; rfl
  ·cases r; rfl
theorem mn:∀ {xs:List V} {us:List Value} {u:Value},aw xs us→u∈us→∃ v∈xs,az v u
 | _,_,_,.nil,h=>by cases h
 | _,_,_,.cons r t,h=>by
  rcases List.mem_cons.mp h with rfl | h
  ·exact⟨_,List.mem_cons_self,r⟩
  ·obtain⟨v,hv,q⟩:=mn t h
   exact⟨v,List.mem_cons_of_mem _ hv,q⟩
inductive rOp_nonInI(K:PySem.W.Frag)(x:V)(y:V)(H:Hp)(Q:VK):Prop where
 | mk:∀ p xs,x=.non→y=.ref p→SqL K H p xs→((∀ v∈xs,Thg K H v))→(Q (.bl (xs.any fun v=>decide (v=.non))) H)→rOp_nonInI K x y H Q
theorem lM(hu:X.A.units+1<cLine):OpR X (compareOp .In) (fun x y H Q=>rOp_nonInI X.K x y H Q):=by
 intro pins s σ H x y v u Q I rx ry h
 obtain⟨p,xs,rfl,rfl,hq,ht,q⟩:=h
 cases rx
 cases ry
 obtain⟨its,r,pl,hz⟩:=I.list hq
 refine SeqAt.in_listAt kK pl.isList (fun w hw=>?_) ⟨.bl _,H,I,rfl,?_⟩
 ·obtain⟨v,hv,rv⟩:=mn r (by simpa using hw)
  rcases ht v hv with rfl | ⟨x,rfl⟩ | ⟨a,ys,rfl,hs⟩
  ·cases rv; exact SeqAt.EqAt.same _
  ·obtain⟨t,rfl⟩:=rv; exact SeqAt.EqAt.str_none x t
  ·cases rv
   obtain⟨jts,_,pt,_⟩:=I.tuple hs
   exact SeqAt.EqAt.tuple_none (show s.heap.IsTuple a jts.toArray from pt) hu
 ·rw [show its.toArray.any kK=its.any kK by simp,mT r ht]
  exact q
inductive rOp_neL0I(K:PySem.W.Frag)(x:V)(y:V)(H:Hp)(Q:VK):Prop where
 | mk:∀ (a b:Addr) (xs:List V),x=.ref a→y=.ref b→SqL K H a xs→SqL K H b []→Q (.bl (!xs.isEmpty)) H→rOp_neL0I K x y H Q
theorem pe(hu:X.A.units<cLine):OpR X (compareOp .NotEq) (fun x y H Q=>rOp_neL0I X.K x y H Q):=by
 intro pins s σ H x y v u Q I rx ry h
 obtain⟨a,b,xs,rfl,rfl,ha,hb,q⟩:=h
 cases rx
 cases ry
 obtain⟨its,r1,p1,_⟩:=I.list ha
 obtain⟨jts,r2,p2,_⟩:=I.list hb
 cases r2
 cases r1 with
 | nil=>
  refine SeqAt.RcNeAt.lists (e:=fun _=>true) p1.isList p2.isList rfl hu (fun j h1 _=>absurd h1 (by simp)) X.prog X.w X.xe _ ⟨.bl false,H,I.tok _,?_,q⟩
  show Value.bool _=Value.bool false
  congr 1
 | cons r t=>
  exact SeqAt.RcNeAt.lists_lengths p1.isList p2.isList (by simp) hu X.prog X.w X.xe _ ⟨.bl true,H,I.tok _,rfl,q⟩
end
end L2
namespace PySem.SeqAt
open PySem
theorem tuple_indexAt(l:Addr)(items:Array Value)(n:Nat)(dd:Option Addr)(sl:Array (Option Value))(x:Value)(e:Value→Bool)(j:Nat)(hj:j<items.size)
  (hit:e items[j]=true) (hno:∀ m (hm:m<items.size),m<j→e items[m]=false) :
  Meets (Builtin.«tuple.index» ⟨[.ref l,x],[]⟩)
   (fun A R s=>s.heap.get? l=some {cls:=.type "tuple",dict:=dd,data:=.seq items n,slots:=sl}∧(∀ y,y∈items→EqAt A.in1 s y x (e y))∧R (.ok (.ret (.int j s.toks))) {s with toks:=s.toks+1}):=
 .of_wp fun prog w A R s h=>by
  obtain⟨hp,g,d,tk,os⟩:=s; obtain⟨hl,he,h⟩:=h
  have key:∀ (k:Nat) (b:Option PySem.Fin×PUnit),b.1=none→k≤j→wpAny (model prog w) A.in1 (forIn (List.range' k (items.size-k)) b (fun (i:Nat) __s=>(match items[i]? with
    | some y=>do
     let z ← eqBool y x
     if z=true then do
      let r ← retInt (i:Int)
      pure (ForInStep.done (some r,PUnit.unit))
     else pure (ForInStep.yield (none,PUnit.unit))
    | x=>pure (ForInStep.yield (none,PUnit.unit)):Sem (ForInStep (Option PySem.Fin×PUnit))))) (fun a s'=>a.1=some (Fin.done (.ret (.int j tk)))∧s'=⟨hp,g,d,tk+1,os⟩) (fun e s'=>R (.error e) s') ⟨hp,g,d,tk,os⟩:=by
   intro k
   induction hk:items.size-k generalizing k with
   | zero=>intro b hb hkj; omega
   | succ m ih=>
    intro b hb hkj
    rw [List.range'_succ,List.forIn_cons]
    have hki:k<items.size:=by omega
    rw [Array.getElem?_eq_getElem hki]
    refine wpAny_bind (wpAny_bind (he items[k] (Array.getElem_mem hki) prog w _ _ ?_))
    by_cases hkj':k=j
    ·subst hkj'
     rw [hit]
     wp_walk
     exact⟨rfl,rfl⟩
    ·rw [hno k hki (by omega)]
     refine wpAny_pure ?_
     exact ih (k+1) (by omega) _ rfl (by omega)
  unfold Builtin.«tuple.index»
  simp only [Std.Legacy.Range.forIn_eq_forIn_range']
  wp_walk using AutoSeq1.wpAny_loadPart' hl
  have k0:=key 0 (none,PUnit.unit) rfl (Nat.zero_le _)
  refine wpAny_mono (Q:=fun a s'=>a.1=some (Fin.done (.ret (.int j tk)))∧s'=⟨hp,g,d,tk+1,os⟩) ?_ (fun a s' ha=>?_) fun _ _ z=>z
  ·have e1:(Std.Legacy.Range.size [:min items.size items.size])=items.size-0:=by simp [Std.Legacy.Range.size]
   have : ∀ n,n=items.size-0→wpAny (model prog w) A.in1 (forIn (List.range' 0 n) ((none:Option PySem.Fin),PUnit.unit) _) _ _ _:=fun n hn=>hn▸k0
   exact this _ e1
  ·obtain⟨ha,rfl⟩:=ha
   rw [ha]
   exact wpAny_pure ⟨_,rfl,h⟩
end PySem.SeqAt
namespace L2
open PySem PySem.Spec PyProof.Rows
theorem iA:∀ {ys:List Str} {its:List Value},aw (ys.map V.str) its→StrsAre its ys
 | [],_,.nil=>.nil
 | y::r,_,.cons ⟨t,e⟩ tl=>by rw [e]; exact .cons y t (iA tl)
section
variable{X:Cx}
inductive rMt_joinTI(K:PySem.W.Frag)(x:V)(xs:List V)(H:Hp)(Q:VK):Prop where
 | mk:∀ (sep:Str) (p:Addr) (ys:List Str),x=.str sep→xs=[.ref p]→SqT K H p (ys.map V.str)→sep.length≤16→(ys.map (·.length)).sum+ys.length≤1048576→Q (.str (Str.join sep ys)) H→rMt_joinTI K x xs H Q
theorem ug:MtR X "str.join" (fun x xs H Q=>rMt_joinTI X.K x xs H Q):=by
 intro pins s σ H x xs v us Q I rx rs h
 obtain⟨sep,p,ys,rfl,rfl,hq,h1,h2,q⟩:=h
 obtain⟨t,rfl⟩:=rx
 obtain⟨u,rfl,ru⟩:=ci rs
 cases ru
 obtain⟨its,r',pl,hz⟩:=I.tuple hq
 refine join_tupleW pl (by simpa using iA r') h1 h2 fun t' k=>⟨.str (Str.join sep ys),H,I.tok k,⟨t',?_⟩,q⟩
 show Value.str (Txt.join sep ys) t'=_
 rw [show Txt.join sep ys=Str.join sep ys from StrLaws.glued_eq_join sep ys]
inductive rMt_indexTI(K:PySem.W.Frag)(x:V)(xs:List V)(H:Hp)(Q:VK):Prop where
 | mk:∀ (p:Addr) (ys:List Str) (k:Str),x=.ref p→xs=[.str k]→SqT K H p (ys.map V.str)→k∈ys→Q (.int (ys.idxOf k:Nat)) H→rMt_indexTI K x xs H Q
theorem qr:MtR X "tuple.index" (fun x xs H Q=>rMt_indexTI X.K x xs H Q):=by
 intro pins s σ H x xs v us Q I rx rs h
 obtain⟨p,ys,k,rfl,rfl,hq,hk,q⟩:=h
 cases rx
 obtain⟨u,rfl,t,rfl⟩:=ci rs
 obtain⟨its,r',pl,hz⟩:=I.tuple hq
 obtain⟨⟨cls,dd,data,sl⟩,ho,hc,n,hd⟩:=pl
 simp only at hc hd
 subst hc hd
 have hlen:=r'.length
 rw [List.length_map] at hlen hz
 have hj:ys.idxOf k<ys.length:=List.idxOf_lt_length_iff.mpr hk
 have at_:∀ (j:Nat) (h1:j<its.length) (h2:j<ys.length),∃ t,its[j]=Value.str ys[j] t:=fun j h1 h2=>by
  obtain⟨u,hu,ru⟩:=r'.get (i:=j) (x:=V.str ys[j]) (by simp [h2])
  obtain⟨t,rfl⟩:=ru
  exact⟨t,by rw [List.getElem?_eq_getElem h1] at hu; exact Option.some.inj hu⟩
 let e:Value→Bool:=fun y=>match y with | .str z _=>z==k | _=>false
 refine call_meets PySem.F.slot_tuple_index ⟨_,ho,rfl⟩ PySem.F.entry_tuple_index (PySem.F.args_tuple_index_2 _ _)
  (SeqAt.tuple_indexAt p its.toArray n dd sl (.str k t) e (ys.idxOf k) (by simpa [← hlen] using hj) ?_ ?_) ⟨ho,fun y hy=>?_,⟨.int (ys.idxOf k:Nat),H,I.tok _,⟨_,rfl⟩,q⟩⟩
 ·obtain⟨t',e'⟩:=at_ (ys.idxOf k) (by omega) hj
  show e its[ys.idxOf k]=true
  rw [e']
  show (ys[ys.idxOf k]==k)=true
  simpa using List.getElem_idxOf hj
 ·intro j hjs hlt
  have h1:j<its.length:=by simpa using hjs
  obtain⟨t',e'⟩:=at_ j h1 (by omega)
  show e its[j]=false
  rw [e']
  show (ys[j]==k)=false
  exact List.not_of_lt_findIdx hlt
 ·have hy':y∈its:=by simpa using hy
  obtain⟨j,h1,rfl⟩:=List.getElem_of_mem hy'
  obtain⟨t',e'⟩:=at_ j h1 (by omega)
  rw [e']
  exact(eqGives_str _ _ _ _).at _ _
end
end L2
set_option maxHeartbeats 4000000
namespace L2
open PySem PySem.Spec PyProof.Rows
section
variable{P:Program}{w:World}{A:Around}{E:Value→Shared→Prop}{s:Shared}
theorem pU{l:Addr}{its:Array Value}{Q:List Value→Shared→Prop}(hh:A.handled=none)(hl:s.heap.IsList l its)(h1:1≤its.size)(hz:its.size≤sizeLine)
  (q:∀ h' t',(∀ b o,s.heap.get? b=some o→h'.get? b=some o)→wpAny (model P w) A (newList (its.toList.take (its.size-1))) (fun v s2=>Q ([v]++its.toList.drop (its.size-1)) s2) E {s with heap:=h',toks:=t'}):wpAny (model P w) A (unpackItems (.ref l) 2 (some 0)) Q E s:=by
 have ne:l≠s.heap.objs.size:=by
  obtain⟨o,e,_⟩:=hl
  exact Nat.ne_of_lt (Heap.lt_size e)
 unfold unpackItems notIterableAtAll
 refine wpAny_bind (wpAny_bind (wpAny_specialOf hl.typeIs slot_list_iter.lookup (wpAny_pure ?_)))
 simp only [Bool.false_eq_true,if_false]
 refine wpAny_bind (wpAny_holding (wpAny_pyIter_list hl ?_))
 refine wpAny_bind (wpAny_holding (i3 ne 0 0 _ _ ⟨_,Heap.get?_push_size _ rfl,rfl,rfl⟩ (hl.push _) (by omega) fun h2 a2 s2=>?_))
 rw [List.drop_zero,if_neg (by omega)]
 refine wpAny_bind (wpAny_holding (wpAny_collect_iter (T:="list_iterator") (.inr (.inr (.inl rfl))) (jk (show A.in1.handled=none from hh) s.heap.objs.size l its 0 ne (Nat.zero_le _)) (fun i s st=>st.1.typeIs) ⟨a2,(hl.push _).extBut s2.extBut ne⟩
  (fun b hb=>?_) List.mem_cons_self (fun s' acc mv ia=>?_) (by omega)))
 ·have hz':s.heap.objs.size<h2.objs.size:=by
   obtain⟨o,e,_⟩:=a2
   exact Heap.lt_size e
  rcases List.mem_cons.mp hb with rfl | hb
  ·exact hz'
  ·rw [List.mem_singleton.mp hb]
   obtain⟨o,e,_⟩:=hl
   exact Nat.lt_trans (Heap.lt_size e) hz'
 ·rw [fJ (Nat.zero_le _) ia,List.drop_zero]
  have hs:its.toList.length=its.size:=Array.length_toList
  have hlen:¬ (its.toList.length<2-0-1):=by omega
  rw [if_neg hlen]
  refine wpAny_bind ?_
  obtain⟨mh,mg,md,mo,mt⟩:=mv
  obtain⟨h',g',d',t',o'⟩:=s'
  simp only at mg md mo mh
  subst mg md mo
  refine wpAny_mono (q h' t' (fun b o e=>?_)) (fun v s3 z=>wpAny_pure ?_) fun _ _ z=>z
  ·have nb:b≠s.heap.objs.size:=Nat.ne_of_lt (Heap.lt_size e)
   exact mh b o (fun z=>nb (List.mem_singleton.mp z)) (s2.extBut b o nb (Heap.get?_push_of_some _ e))
  ·simpa using z
inductive gStar0I(K:PySem.W.Frag)(t:TGs)(v:V)(σ:St)(H:Hp)(Q:(St→Hp→Prop)):Prop where
 | mk:∀ a xs y,v=.ref a→SqL K H a (xs++[y])→(∀ l,H l=none→t [.ref l,y] σ (upd H l (.lst xs)) Q)→gStar0I K t v σ H Q
def yK(K:PySem.W.Frag)(t:TGs):TG:=fun v σ H Q=>gStar0I K t v σ H Q
theorem tf{X:Cx}{e1 e2:Expr}{p pos:Pos}{k:Nat}{t:TGs}(hc:X.calm=true)(h:PGs X [e1,e2] t)(hst:(assignEach [.Starred e1 p,e2] X.env).findIdx? (·.1)=some 0:=by rfl)
  (hm:(assignEach [.Starred e1 p,e2] X.env).map (·.2)=(assignEach [e1,e2] X.env).map (·.2):=by rfl) (hn:(assignEach [.Starred e1 p,e2] X.env).length=2:=by rfl):PG X (.Tuple [.Starred e1 p,e2] k pos) (yK X.K t):=by
 intro pins s σ H v u Q I r hw
 obtain⟨a,xs,y,rfl,hq,hw⟩:=hw
 cases r
 rw [assign_Tuple]
 refine wpAny_bind (wpAny_standAt ?_)
 unfold unpack
 rw [hst,hn,hm]
 obtain⟨its,rv,pl,hz⟩:=I.list hq
 have hl:=rv.length
 rw [List.length_append,List.length_singleton] at hl hz
 refine wpAny_bind (wpAny_holding (pU (I.ok.hd hc) pl.isList (by rw [List.size_toArray]; omega) (by rw [List.size_toArray]; omega) fun h' t' hk=>?_))
 have hn1:its.toArray.size-1=xs.length:=by rw [List.size_toArray]; omega
 rw [hn1]
 have rt:=rv.take xs.length
 have rd:=rv.drop xs.length
 rw [List.take_left] at rt
 rw [List.drop_left] at rd
 have e1:its.toArray.toList=its:=by simp
 rw [e1]
 have I1:Inv X pins σ H {s with heap:=h',toks:=t'}:=I.kept hk
 have hlen:=rt.length
 refine wpAny_newObj_type ?_ (by show (its.take xs.length).toArray.size≤sizeLine; rw [List.size_toArray]; omega)
 have hf:H h'.objs.size=none:=I1.hok.fresh (Nat.le_refl _)
 have I2:Inv X pins σ (upd H h'.objs.size (.lst xs)) {s with heap:=h'.push {cls:=.type "list",data:=.seq (its.take xs.length).toArray},toks:=t'}:=
  I1.laid (t':=t') (fun b u e=>Heap.get?_push_of_some _ e) (Nat.le_refl _) ⟨by omega,its.take xs.length,0,rt,Heap.get?_push_size _ rfl⟩
 exact h pins _ σ _ [.ref h'.objs.size,y] ([.ref h'.objs.size]++its.drop xs.length) Q I2 (Paired.cons (show az (.ref h'.objs.size) (.ref h'.objs.size) from rfl) rd) (hw _ hf)
end
theorem nX(l:Addr)(its:Array Value)(n:Nat)(dc:Option Addr)(sl:Array (Option Value))(t:Tok):
  Meets (Builtin.«enumerate.__new__» ⟨[.type "enumerate",.ref l],[("start",.int 1 t)]⟩) (fun _ R s=>s.heap.get? l=some {cls:=.type "list",dict:=dc,data:=.seq its n,slots:=sl}∧
   R (.ok (.ret (.ref (s.heap.push {cls:=.type "list_iterator",data:=.fields #[.ref l,.int 0 0]}).objs.size)))
    {s with heap:=(s.heap.push {cls:=.type "list_iterator",data:=.fields #[.ref l,.int 0 0]}).push {cls:=.type "enumerate",data:=.fields #[.none,.bool false,.ref s.heap.objs.size,rawInt 1,.none,.none]}}):=
 .of_wp fun prog w A R s h=>by
  obtain⟨hp,g,d,tk,os⟩:=s
  obtain⟨hl,h⟩:=h
  have sub:=sub_enumerate
  have ht:Heap.IsList (Shared.heap ⟨hp,g,d,tk,os⟩) l its:=⟨_,hl,rfl,n,rfl⟩
  wp_walk using AutoSeq1.wpAny_loadPart' hl
  refine wpAny_stack_any fun st=>wpAny_pure ?_
  split
  ·rename_i c _ _ _ _ _
   cases (c==Value.type "enumerate") <;> (wp_walk using AutoSeq1.wpAny_loadPart' hl,wpAny_pyIter_list ht; exact⟨_,rfl,h⟩)
  ·wp_walk using AutoSeq1.wpAny_loadPart' hl,wpAny_pyIter_list ht
   exact⟨_,rfl,h⟩
theorem rH(a:Value)(t:Tok):checkTypeCall "enumerate" ⟨[a],[("start",.int 1 t)]⟩=pure ():=by kernel_rfl
theorem zba(a:Value)(t:Tok):checkBuiltinCall "enumerate.__new__" ⟨[.type "enumerate",a],[("start",.int 1 t)]⟩=pure ():=by kernel_rfl
theorem oa{self a:Value}{t:Tok}:Meets (Builtin.«object.__init__» ⟨[self,a],[("start",.int 1 t)]⟩) (fun _ R s=>s.TypeIs self "enumerate"∧R (.ok (.ret .none)) s):=by
 have hl:=F.called_enumerate.init.lookup
 have hm:=F.called_enumerate.made
 refine Meets.of_wp fun prog w A R s ⟨hT,q⟩=>?_
 have hne:(some "enumerate.__new__" != some "object.__new__")=true:=by decide
 repeat (any_goals (first | assumption | wp_step))
 exact⟨_,rfl,q⟩
theorem t0(a b:Value)(t:Tok):argsOk "object.__init__" ⟨[a,b],[("start",.int 1 t)]⟩:=by
 have e:=signature?_of (id:="object.__init__") (n:="__tini__".toList) (o:="tcejbo".toList) (by kernel_rfl) F.owner_object
 unfold argsOk
 rw [e]
 kernel_rfl
section
variable{prog:Program}{w:World}{A:Around}{E:Value→Shared→Prop}{s:Shared}
theorem oq{l:Addr}{its:Array Value}{t:Tok}{Q:Value→Shared→Prop}(ht:s.heap.IsList l its)
  (h:∀ h',IsEnum h' (s.heap.objs.size+1) s.heap.objs.size 1 .none→h'.IsListIter s.heap.objs.size l 0→h'.objs.size=s.heap.objs.size+2→
   (∀ b o,s.heap.get? b=some o→h'.get? b=some o)→Q (.ref (s.heap.objs.size+1)) {s with heap:=h'}) :
  wpAny (model prog w) A (call (.type "enumerate") [.ref l] [("start",.int 1 t)]) Q E s:=by
 obtain⟨⟨c,dc,dt,sl⟩,hl,hc,n,hd⟩:=ht
 replace hc:c=.type "list":=hc
 replace hd:dt=.seq its n:=hd
 subst hc hd
 obtain⟨c0,tl,mro⟩:=F.called_enumerate.mro
 have made:=F.called_enumerate.made
 have sub:=F.called_enumerate.sub
 have nt:=F.called_enumerate.notType
 have cc:=F.called_enumerate.canCreate
 refine wpAny_call (codeAny_of_tree (show wpAny _ _ (callAny (.type "enumerate") _) _ _ _ from wpAny_pure ⟨Code.quiet_builtin _ (by decide +kernel),codeAny_builtin F.entry_type_call ?_⟩))
 rw [Around.under_plain (weight_type_call_type "enumerate" [.ref l] [("start",.int 1 t)]) (units_type_call_type "enumerate" [.ref l] [("start",.int 1 t)])]
 have tc:=rH (.ref l) t
 repeat (any_goals (first | assumption | wp_step))
 let R1:Result→Shared→Prop:=fun r s₁=>r=.ok (.ret (.ref (s.heap.push {cls:=.type "list_iterator",data:=.fields #[.ref l,.int 0 0]}).objs.size))∧
  s₁={s with heap:=(s.heap.push {cls:=.type "list_iterator",data:=.fields #[.ref l,.int 0 0]}).push {cls:=.type "enumerate",data:=.fields #[.none,.bool false,.ref s.heap.objs.size,rawInt 1,.none,.none]}}
 have st:codeAny (model prog w) A.in1 (.call (.builtin "enumerate.__new__") ⟨[.type "enumerate",.ref l],[("start",.int 1 t)]⟩) R1 s:=
  codeAny_call_builtin F.called_enumerate.plain F.entry_enumerate_new (wpAny_of_eq (zba (.ref l) t) (nX l its n dc sl t prog w A.in1 R1 s ⟨hl,rfl,rfl⟩))
 refine codeAny_mono st fun r s₁ hr=>?_
 obtain⟨rfl,rfl⟩:=hr
 have z:=Heap.size_push s.heap {cls:=.type "list_iterator",data:=.fields #[.ref l,.int 0 0]}
 have he:=Heap.get?_push_size (s.heap.push {cls:=.type "list_iterator",data:=.fields #[.ref l,.int 0 0]}) (o:={cls:=.type "enumerate",data:=.fields #[.none,.bool false,.ref s.heap.objs.size,rawInt 1,.none,.none]}) rfl
 have fin:=h _ (by rw [z] at he; exact he) ⟨_,Heap.get?_push_of_some _ (Heap.get?_push_size _ rfl),rfl,rfl⟩ (by rw [Heap.size_push,z]) fun b o x=>Heap.get?_push_of_some _ (Heap.get?_push_of_some _ x)
 rw [← z] at fin
 generalize ((s.heap.push {cls:=.type "list_iterator",data:=.fields #[.ref l,.int 0 0]}).push {cls:=.type "enumerate",data:=.fields #[.none,.bool false,.ref s.heap.objs.size,rawInt 1,.none,.none]})=hh at he fin ⊢
 have hT:Shared.TypeIs {s with heap:=hh} (.ref (s.heap.push {cls:=.type "list_iterator",data:=.fields #[.ref l,.int 0 0]}).objs.size) "enumerate":=⟨_,he,rfl⟩
 generalize (s.heap.push {cls:=.type "list_iterator",data:=.fields #[.ref l,.int 0 0]}).objs.size=ea at he fin hT ⊢
 have li:=F.called_enumerate.init.lookup
 have bi:=F.called_enumerate.init.bind (.ref ea)
 repeat (any_goals (first | assumption | wp_step))
 let R2:Result→Shared→Prop:=fun r s₂=>r=.ok (.ret .none)∧s₂={s with heap:=hh}
 have st2:codeAny (model prog w) A.in1 (.call (.builtin "object.__init__") ⟨[.ref ea,.ref l],[("start",.int 1 t)]⟩) R2 {s with heap:=hh}:=
  codeAny_call_builtin F.called_enumerate.init.plain F.entry_object_init (F.called_enumerate.init.check _ _ _ _ _ _ _ _ hT (t0 _ _ t) (oa prog w A.in1 R2 _ ⟨hT,rfl,rfl⟩))
 refine codeAny_mono st2 fun r s₂ hr=>?_
 obtain⟨rfl,rfl⟩:=hr
 repeat (any_goals (first | assumption | wp_step))
end
theorem Draws.shift{prog:Program}{w:World}{A:Around}{it:Addr}{fp:List Addr}{n:Nat}{P:Nat→Value→Prop}{St:Nat→Heap→Prop}(D:Draws prog w A it fp n P St):Draws prog w A it fp (n+1) (fun i v=>P (i-1) v) (fun i h=>1≤i∧St (i-1) h) where
 live:=fun i h st=>D.live _ h st.2
 frame:=fun i h h' st k=>⟨st.1,D.frame _ h h' st.2 k⟩
 item:=fun i s Q E hi st hQ=>by
  obtain⟨j,rfl⟩:∃ j,i=j+1:=⟨i-1,by have:=st.1; omega⟩
  exact D.item j s Q E (by omega) st.2 fun x h' tk p st' sb=>hQ x h' tk p ⟨by omega,st'⟩ sb
 done:=fun s Q E st hE=>D.done s Q E st.2 hE
theorem kT{prog:Program}{w:World}{A:Around}(hh:A.handled=none)(it l:Addr)(hne:l≠it)(items:Array Value)(n:Nat)(hn:items[n]? = none):
  Draws prog w A it [it,l] n (fun _ _=>False) (fun i h=>i=n∧h.IsListIter it l i∧h.IsList l items) where
 live:=fun _ _ st=>let ⟨o,ho,_⟩:=st.2.1; ⟨o,ho⟩
 frame:=fun i h h' st hk=>⟨st.1,st.2.1.at fun o e=>hk it (by simp) o e,st.2.2.at fun o e=>hk l (by simp) o e⟩
 item:=fun i s Q E hi st hQ=>absurd st.1 (Nat.ne_of_lt hi)
 done:=fun s Q E st hE=>by
  have:=wpAny_nextOf_list_end (prog:=prog) (w:=w) (E:=E) (Q:=Q) hh st.2.1 st.2.2 hn
  exact this hE
def uV(K:PySem.W.Frag)(a:Addr):It:=
 ⟨fun i H=>∃ xs x,SqL K H a xs∧xs[i]? = some x,fun i H v H'=>∃ p y,H p=none∧v=.ref p∧H'=upd H p (.tup [.int (i+1:Nat),y])∧∀ xs,SqL K H a xs→xs[i]? = some y,fun i H=>∃ xs,SqL K H a xs∧xs.length≤i⟩
theorem mZ{P:Program}{w:World}{K:PySem.W.Frag}{elts:List Expr}{k:Nat}{tpos:Pos}(a it e:Addr)(hei:e≠it):ic P w K (.Tuple elts k tpos) (uV K a) [e,it] e (fun i h=>(∃ old,IsEnum h e it (i+1:Nat) old)∧h.IsListIter it a i) where
 mem:=by simp
 obj:=fun i h st b hb=>by
  obtain⟨⟨old,he⟩,o,e1,_,d1⟩:=st
  rcases List.mem_cons.mp hb with rfl | hb
  ·exact⟨_,he,fun v z=>by cases z⟩
  ·rw [List.mem_singleton.mp hb]
   exact⟨o,e1,fun v z=>by rw [d1] at z; cases z⟩
 keep:=fun i h h' st k=>by
  obtain⟨⟨old,he⟩,o,e1,r⟩:=st
  exact⟨⟨old,k e (by simp) _ he⟩,o,k it (by simp) o e1,r⟩
 item:=by
  intro X hP hw hK hc i pins s σ H E I hf st hg
  subst hP hw hK
  obtain⟨xs,x,hq,hx⟩:=hg
  obtain⟨its,rv,pl,hz⟩:=I.list hq
  obtain⟨u,hu,ru⟩:=rv.get hx
  obtain⟨⟨old,he⟩,hit⟩:=st
  have D:=Draws.shift <| Draws.list (prog:=X.prog) (w:=X.w) (A:=X.A.in1) (by simpa using I.ok.hd hc) it a (by
   rintro rfl
   obtain⟨_,e1,c1,_⟩:=hit
   obtain⟨_,_,e2,c2,_⟩:=pl
   rw [e1] at e2; cases e2
   rw [c1] at c2
   exact absurd (Value.type.inj c2) (by decide)) its.toArray
  have hi:i<its.toArray.size:=by simpa using (List.getElem?_eq_some_iff.mp hu).1
  have hea:e∉[it,a]:=by
   intro z
   rcases List.mem_cons.mp z with z | z
   ·exact hei z
   ·rw [List.mem_singleton.mp z] at he
    obtain⟨_,_,e2,c2,_⟩:=pl
    rw [he] at e2; cases e2
    exact absurd (Value.type.inj c2) (by decide)
  refine wpAny_pyNext_enum_itemD (i:=i+1) D he ⟨by omega,hit,pl.isList⟩ (by omega) hei hea fun x' h' tk hP ho hs' hT hsz hk=>?_
  obtain rfl:x'=u:=by
   have : its.toArray[i]? = some u:=by simpa using hu
   have hP:its.toArray[i+1-1]? = some x':=hP
   rw [Nat.add_sub_cancel,this] at hP; exact(Option.some.inj hP).symm
  refine⟨_,rfl,?_⟩
  refine wpAny_letOwnedTupleGo_enum (s:={s with heap:=h',toks:=tk+1}) ho fun h2 he2 sb2=>?_
  have k2:∀ b o,b∉[e,it]→s.heap.get? b=some o→h2.get? b=some o:=fun b o nb q=>(sb2.2 b (fun z=>nb (by simp [z]))).trans (hk b o (fun z=>nb (by simp [z])) (fun z=>nb (by simp [z])) q)
  have lo:∀ b∈[e,it],cB X pins H b:=fun b hb=>(hf b hb).loose
  have nF:∀ b∈[e,it],b∉frs X.stack:=fun b hb z=>by
   obtain⟨_,f1,f2,_⟩:=hf b hb
   exact(List.mem_cons.mp (I.stkSub b z)).elim f1 f2
  have I2:Inv X pins σ H {s with heap:=h2,toks:=tk+1}:=I.fly (t':=tk+1) lo (fun b o q n _=>k2 b o n q) fun b o q hb=>⟨o.slots,k2 b o (fun z=>nF b z hb) q⟩
  have hn:H s.heap.objs.size=none:=I.hok.fresh (Nat.le_refl _)
  have hTn:s.heap.objs.size≠e:=Nat.ne_of_gt (Heap.lt_size he)
  have hT2:h2.get? s.heap.objs.size=some {cls:=.type "tuple",data:=.seq #[.int (i+1:Nat) tk,x']}:=(sb2.2 _ hTn).trans hT
  have lT:cB X pins H s.heap.objs.size:=I.loose (Heap.get?_none_of_le (Nat.le_refl _))
  have hok:aF X.prog X.w (upd H s.heap.objs.size (.tup [.int (i+1:Nat),x])) h2 s.heap.objs.size (.tup [.int (i+1:Nat),x]):=⟨(by show 2≤sizeLine; decide),[.int (i+1:Nat) tk,x'],.cons ⟨tk,rfl⟩ (.cons ru .nil),⟨_,hT2,rfl,0,rfl⟩⟩
  refine⟨.ref s.heap.objs.size,upd H s.heap.objs.size (.tup [.int (i+1:Nat),x]),I2.trackO lT hok,rfl,⟨_,x,hn,rfl,rfl,fun ys hy=>by rw [I.list_inj hy hq]; exact hx⟩,⟨⟨_,by rw [show ((i+1:Nat):Int)+1=((i+1+1:Nat):Int) from by omega] at he2; exact he2⟩,?_⟩,fun b hb=>?_⟩
  ·obtain⟨o,e1,r⟩:=hs'.2.1
   exact⟨o,(sb2.2 it (Ne.symm hei)).trans e1,r⟩
  ·have : b≠s.heap.objs.size:=by
    rcases List.mem_cons.mp hb with rfl | hb
    ·exact Ne.symm hTn
    ·rw [List.mem_singleton.mp hb]
     obtain⟨_,e1,_⟩:=hit
     exact Nat.ne_of_lt (Heap.lt_size e1)
   rw [ad this]; exact(hf b hb).1
 done:=by
  intro X hP hw hK hc i pins s σ H E I hf st hg
  subst hP hw hK
  obtain⟨xs,hq,hx⟩:=hg
  obtain⟨its,rv,pl,hz⟩:=I.list hq
  obtain⟨⟨old,he⟩,hit⟩:=st
  have hl:=rv.length
  have D:=kT (prog:=X.prog) (w:=X.w) (A:=X.A.in1) (by simpa using I.ok.hd hc) it a (by
   rintro rfl
   obtain⟨_,e1,c1,_⟩:=hit
   obtain⟨_,_,e2,c2,_⟩:=pl
   rw [e1] at e2; cases e2
   rw [c1] at c2
   exact absurd (Value.type.inj c2) (by decide)) its.toArray i (by simp; omega)
  refine wpAny_pyNext_enum_endD D he ⟨rfl,hit,pl.isList⟩ fun h' eb=>⟨rfl,?_⟩
  obtain⟨f0,f1,f2,f3,f4,f5⟩:=hf it (by simp)
  exact I.turned (t':=s.toks) (fun b o hb e=>eb b o hb e) f0 f1 f3 f4 f5
 self:=fun _ _ _ _ _ st h=>by
  obtain⟨⟨old,he⟩,_⟩:=st
  exact wpAny_pyIter_enum he h
section
variable{X:Cx}{elts:List Expr}{k:Nat}{tpos:Pos}
theorem Ao{M:Model}{A:Around}{E:Value→Shared→Prop}{s:Shared}{env:Env}{pos p2:Pos}{T:String}{e v:Expr}{nm:Str}{Q:Value→Shared→Prop}(he:starEach [e] env=[(false,eval e env)])
  (h:wpAny M A (spliced (backTo pos (starEach [e] env))) (fun us s₁=>wpAny M A (evalAll ((backToKw pos (keywordEach [⟨some nm,v,p2⟩] env)).map (·.2))) (fun ks s₂=>wpAny M A (call (.type T) us (((backToKw pos (keywordEach [⟨some nm,v,p2⟩] env)).filterMap (·.1)).zip ks)) Q E s₂) E s₁) E s) :
  wpAny M A (callWith pos (.type T) [] (backTo pos (starEach [e] env)) (backToKw pos (keywordEach [⟨some nm,v,p2⟩] env))) Q E s:=by
 rw [he] at h ⊢
 have h2:=evalArgs_kwB (f:=.type T) (rest:=[]) (Q:=fun (ag:Args) s₂=>wpAny M A (call (.type T) ag.pos ag.kw) Q E s₂) (keywords:=backToKw pos (keywordEach [⟨some nm,v,p2⟩] env)) rfl h
 unfold callWith
 refine wpAny_bind (wpAny_holding (wpAny_mono h2 (fun ag t₁ g₁=>wpAny_bind (wpAny_standAt (wpAny_bind (wpAny_pure (wpAny_bind (wpAny_mono g₁ (fun y t₂ gy=>wpAny_bind (wpAny_holding (wpAny_point (wpAny_pure gy)))) fun _ _ y=>y))))) ) fun _ _ y=>y))
inductive iEnumSI(K:PySem.W.Frag)(R:(It→Hp→Prop))(vs:List V)(H1:Hp):Prop where
 | mk:∀ a xs,vs=[.ref a]→SqL K H1 a xs→R (uV K a) H1→iEnumSI K R vs H1
def yI(K:PySem.W.Frag)(ta:TA):TI:=fun σ H R=>ta σ H fun vs H1=>iEnumSI K R vs H1
theorem sZ{a:Expr}{ta:TA}{p p2 p3 pos:Pos}{kk:Nat}(hg:Gl X "enumerate")(hm:X.mg "enumerate"=none)(ha:PA X [a] ta)(hs:starEach [a] X.env=[(false,eval a X.env)]:=by rfl):PI X (.Tuple elts k tpos) (.Call (.Name "enumerate" p) [a] [⟨some "start",.Constant (.int 1) kk p3,p2⟩] pos) (yI X.K ta):=by
 intro pins s σ H R I h
 refine wpAny_Call_ofName (fH I hg hm jV (Ao hs (thn (ha pos pins s σ H _ I h) fun us s1 ⟨vs,H1,I1,r1,q1⟩=>?_)))
 obtain⟨b,xs,e,hq,q⟩:=q1
 subst e
 cases r1 with
 | cons r rr=>
  cases rr
  cases r
  refine kwAll_cons (thn (dM (X:=X) pins s1 σ H1 (fun v H'=>v=.int 1∧H'=H1) I1 ⟨rfl,rfl⟩) fun kv s2 ⟨v,H2,I2,r2,ev,eH⟩=>kwAll_nil ?_)
  subst ev eH
  obtain⟨t,rfl⟩:=r2
  obtain⟨its,rv,pl,hz⟩:=I2.list hq
  refine oq (t:=t) pl.isList fun h' hE hI hsz hk=>wpAny_pyIter_enum hE ?_
  refine⟨s2.heap.objs.size+1,[s2.heap.objs.size+1,s2.heap.objs.size],_,_,H2,rfl,I2.kept (t':=s2.toks) hk,mZ b s2.heap.objs.size (s2.heap.objs.size+1) (Nat.succ_ne_self _),⟨⟨_,hE⟩,hI⟩,fun c hc=>?_,q⟩
  rcases List.mem_cons.mp hc with rfl | hc
  ·exact I2.fpOk (Nat.le_succ _) (I2.hok.fresh (Nat.le_succ _))
  ·rw [List.mem_singleton.mp hc]
   exact I2.fpOk (Nat.le_refl _) (I2.hok.fresh (Nat.le_refl _))
end
end L2
set_option maxHeartbeats 1000000
namespace L2
open PySem PySem.Spec PyProof.Rows
theorem vo{X:Cx}{body:List Stmt}{h₀:ExceptHandler}{hs:List ExceptHandler}{pos:Pos}{tb:TS}(hb:PSs X.nox body tb):PS X.nox (.Try body (h₀::hs) [] [] pos) tb:=by
 intro pins s σ H D I h
 refine wpAny_Try_except (wpAny_mono (hb pins s σ H D I h) (fun f s1 z=>?_) fun _ _ q=>False.elim q)
 cases f with
 | next=>exact wpAny_execs_nil z
 | brk=>exact z
 | cont=>exact z
 | ret u=>exact z
section
variable{X:Cx}
inductive rMt_joinLI(K:PySem.W.Frag)(x:V)(xs:List V)(H:Hp)(Q:VK):Prop where
 | mk:∀ (sep:Str) (p:Addr) (ys:List Str),x=.str sep→xs=[.ref p]→SqL K H p (ys.map V.str)→sep.length≤16→(ys.map (·.length)).sum+ys.length≤1048576→Q (.str (Str.join sep ys)) H→rMt_joinLI K x xs H Q
theorem uh:MtR X "str.join" (fun x xs H Q=>rMt_joinLI X.K x xs H Q):=by
 intro pins s σ H x xs v us Q I rx rs h
 obtain⟨sep,p,ys,rfl,rfl,hq,h1,h2,q⟩:=h
 obtain⟨t,rfl⟩:=rx
 obtain⟨u,rfl,ru⟩:=ci rs
 cases ru
 obtain⟨its,r',pl,hz⟩:=I.list hq
 refine join_listW pl.isList (by simpa using iA r') h1 h2 fun t' k=>⟨.str (Str.join sep ys),H,I.tok k,⟨t',?_⟩,q⟩
 show Value.str (Txt.join sep ys) t'=_
 rw [show Txt.join sep ys=Str.join sep ys from StrLaws.glued_eq_join sep ys]
end
section
variable{X:Cx}{tg:Expr}
theorem PI.or{l:Expr}{wi wi':TI}(h:PI X tg l wi)(h':PI X tg l wi'):PI X tg l (fun σ H R=>wi σ H R∨wi' σ H R):=by
 intro pins s σ H R I q
 rcases q with q | q
 ·exact h pins s σ H R I q
 ·exact h' pins s σ H R I q
def zO(K:PySem.W.Frag)(tl:TE):TI:=fun σ H R=>xx K tl σ H R∨zN K tl σ H R
theorem xV{l:Expr}{tl:TE}(hl:PE X l tl):PI X tg l (zO X.K tl):=(o7 hl).or (sX hl)
theorem qA(K:PySem.W.Frag):PySem.W.kitAny K (.type "list") [.type "list",.type "tuple"]=some true:=rfl
theorem nZ(K:PySem.W.Frag):PySem.W.kitAny K (.type "tuple") [.type "list",.type "tuple"]=some true:=rfl
theorem bX(K:PySem.W.Frag):PySem.W.kitOne K (.type "str") (.type "str")=some true:=rfl
theorem il{t u:TS}{D:dn}{σ:St}{H:Hp}(Mid:St→Hp→Prop)(hu:∀ σ' H',Mid σ' H'→u D σ' H')(h:(∀ σ' H',Mid σ' H'→u D σ' H')→t {D with nx:=u D} σ H):u3 t u D σ H:=h hu
end
theorem fK{n:Nat}{K:PySem.W.Frag}{a:Addr}{xs:List V}{g:TG}{tk tv:TE}{σ:St}{H:Hp}{Q:VK}(hz:xs.length≤sizeLine)(Pv:Nat→List (Key×V)→Hp→Prop)(h0:Pv 0 [] H)(hl:∀ i kvs H,i≤xs.length→Pv i kvs H→SqL K H a xs∧kvs.length≤i)
  (hs:∀ (R:St→Hp→List (Key×V)→Prop) i x kvs H (vs:List (Option V)),vs.length=n→xs[i]? = some x→Pv i kvs H→(∀ vs' H4 kvs',List.length vs'=n→Pv (i+1) kvs' H4→R (vs'++σ) H4 kvs')→
   g x (vs++σ) H fun σ2 H2=>tk σ2 H2 fun y H3=>tv σ2 H3 fun v H4=>∃ k,y=kV k∧R σ2 H4 (putK kvs k v))
  (hd:∀ kvs H,Pv xs.length kvs H→∀ D,H D=none→Q (.ref D) (upd H D (.dK kvs))):eV n (Itl K a) g tk tv σ H Q:=by
 refine⟨fun i m kvs σ' H=>i≤xs.length∧m=xs.length-i∧(∃ vs:List (Option V),vs.length=n∧σ'=vs++σ)∧Pv i kvs H,⟨xs.length,Nat.zero_le _,rfl,⟨_,List.length_replicate,rfl⟩,h0⟩,?_⟩
 rintro i m kvs σ' H1 ⟨hi,rfl,⟨vs,hv,rfl⟩,p⟩
 obtain⟨q1,q2⟩:=hl i kvs H1 hi p
 by_cases hlt:i<xs.length
 ·refine .inr ⟨⟨xs,xs[i],q1,by simp [hlt]⟩,Nat.lt_of_le_of_lt q2 (Nat.lt_of_lt_of_le hlt hz),fun x H' y=>?_⟩
  obtain⟨rfl,y⟩:=y
  exact hs (fun σ2 H4 kvs'=>∃ m',m'<xs.length-i∧i+1≤xs.length∧m'=xs.length - (i+1)∧(∃ vs:List (Option V),vs.length=n∧σ2=vs++σ)∧Pv (i+1) kvs' H4) i x kvs _ vs hv (y xs q1) p fun vs' H4 kvs' hv' p'=>⟨_,by omega,hlt,rfl,⟨vs',hv',rfl⟩,p'⟩
 ·have e:i=xs.length:=by omega
  subst e
  exact .inl ⟨⟨xs,q1,Nat.le_refl _⟩,hd kvs H1 p⟩
theorem gR(c:Nat)(z:List Nat):∀ {l:List Nat},c∉l→(l.flatMap fun d=>if d=c then z else [d])=l
 | [],_=>rfl
 | d::r,h=>by
  rw [List.flatMap_cons,if_neg (fun e=>h (by rw [e]; exact List.mem_cons_self)),gR c z (fun e=>h (List.mem_cons_of_mem _ e))]
  rfl
theorem jM(c:Nat)(z:Str):∀ {ps:List Str},(∀ p∈ps,c∉p.cps.toList)→(Str.join z ps).cps.toList=(Str.join ⟨#[c]⟩ ps).cps.toList.flatMap fun d=>if d=c then z.cps.toList else [d]
 | [],_=>rfl
 | [x],h=>(gR c _ (h x List.mem_cons_self)).symm
 | x::y::r,h=>by
  rw [bz c x y r,List.flatMap_append,gR c _ (h x List.mem_cons_self),List.flatMap_cons,if_pos rfl,← jM c z (fun p hp=>h p (List.mem_cons_of_mem _ hp))]
  show (x++z++Str.join z (y::r)).cps.toList=_
  rw [eQ,eQ,List.append_assoc]
theorem gb(x z:Str)(c:Nat):(Txt.replace x ⟨#[c]⟩ z).cps.toList=x.cps.toList.flatMap fun d=>if d=c then z.cps.toList else [d]:=by
 rw [StrLaws.replace_one,jM c z (StrLaws.split_free x c),StrLaws.join_split]
abbrev LC(k:NameKind)(s:Scope)(x:String):Prop:=s.names.lookup (Str.ofString x)=some k
abbrev LN(k:NameKind)(s:Stmt)(x:String):Prop:=(af s).names.lookup (Str.ofString x)=some k
abbrev LD(x:String):Prop:=((Str.ofString x:Str)==("__debug__":Str))=false
abbrev LS(x:String):Prop:=((Str.ofString x:Str)==("__classdict__":Str))=false
abbrev LM(x:String):Prop:=(Str.ofString x:Str)≠"__name__"
end L2
namespace Few
open PySem L2
variable{P:Program}{w:World}{K:PySem.W.Frag}{mg:Str→Option Value}{base:Heap}
def top(i:Nat):Stmt:=PySem.Challenge.pw_fewthings_k16_texts_written_back.main.body.getD i (.Pass ⟨0,0,0,0⟩)
structure Bl(mg:Str→Option Value):Prop where
 n_len:mg "len"=none
 n_max:mg "max"=none
 n_abs:mg "abs"=none
 n_divmod:mg "divmod"=none
 n_list:mg "list"=none
 n_tuple:mg "tuple"=none
 n_range:mg "range"=none
 n_int:mg "int"=none
 n_str:mg "str"=none
 n_repr:mg "repr"=none
 n_isinstance:mg "isinstance"=none
 n_all:mg "all"=none
 n_set:mg "set"=none
theorem jT{α β:Type}(f:α→β):∀ (l:List α) (i:Nat),(l.map f).eraseIdx i=(l.eraseIdx i).map f
 | [],_=>rfl
 | _::_,0=>rfl
 | x::r,i+1=>by
  show f x::(r.map f).eraseIdx i=f x::(r.eraseIdx i).map f
  rw [jT f r i]
theorem fz{α:Type}:∀ (l:List α) (i:Nat) (h:i<l.length),(l[i]::l.eraseIdx i).Perm l
 | x::r,0,_=>List.Perm.refl _
 | x::r,i+1,h=>by
  show (r[i]'(by simpa using h)::x::r.eraseIdx i).Perm (x::r)
  exact(List.Perm.swap _ _ _).trans (List.Perm.cons x (fz r i (by simpa using h)))
inductive Cm(n:Nat)(N:List Str):Prop where
 | mk:Cm n N
theorem nth(i:Nat){N:List Str}{x:Str}(h:N[i]? = some x):N[i]? = some x:=h
theorem xv{sc:Scope}{x:Str}(h:(sc.names.lookup x==some .local||sc.names.lookup x==some .cell)=true):sc.names.lookup x=some .local∨sc.names.lookup x=some .cell:=by
 rcases Bool.or_eq_true _ _ |>.mp h with h | h
 ·exact .inl (eq_of_beq h)
 ·exact .inr (eq_of_beq h)
theorem AO{N ps:List Str}{sc:Scope}{X:Cx}{x:Str}(S:ak N ps sc)(e:X.env.scope=sc)(h:sc.names.lookup x=some .globalImplicit):Gl X x:=by rw [← e] at h; exact h
theorem AJ{N ps:List Str}{sc:Scope}{X:Cx}{x:Str}(S:ak N ps sc)(e:X.env.scope=sc)(h:(sc.names.lookup x==some .local||sc.names.lookup x==some .cell)=true):Loc X.env.scope x:=by rw [e]; exact xv h
theorem An{N ps:List Str}{sc:Scope}{X:Cx}{x:Str}(S:ak N ps sc)(e:X.env.scope=sc)(h:(sc.names.lookup x==some .local||sc.names.lookup x==some .cell)=true):Vis X.env.scope x:=by rw [e]; exact(xv h).elim fV Ak
theorem Al{X:Cx}{N':List Str}{scope:Scope}{cl:List (Str×Addr)}{C:Addr}{ex:List Addr}{s:Shared}{H:Hp}{x:Str}(h:scope.names.lookup x=some .local):Vis (ao X N' scope cl C ex s H).env.scope x:=Ai h
theorem Am{X:Cx}{N':List Str}{scope:Scope}{cl:List (Str×Addr)}{C:Addr}{ex:List Addr}{s:Shared}{H:Hp}{x:Str}(h:scope.names.lookup x=some .free):Vis (ao X N' scope cl C ex s H).env.scope x:=Aj h
theorem AQ{X:Cx}{N':List Str}{scope:Scope}{cl:List (Str×Addr)}{C:Addr}{ex:List Addr}{s:Shared}{H:Hp}{x:Str}(h:scope.names.lookup x=some .globalImplicit):Gl (ao X N' scope cl C ex s H) x:=glO h
theorem AK{N ps:List Str}{sc:Scope}{X:Cx}{x:Str}(S:ak N ps sc)(e:X.env.scope=sc)(h:sc.names.lookup x=some .local):X.env.scope.names.lookup x=some .local:=by rw [e]; exact h
theorem zq{X:Cx}{mg:Str→Option Value}{x:Str}{v:V}{u:Value}{pos:Pos}(hm:mg x=some u)(q:X.mg=mg)(r:az v u)(hg:Gl X x)(hd:(x==("__debug__":Str))=false):PE X (.Name x pos) (tC v):=vD hg (by rw [q]; exact hm) r hd
theorem zr{X:Cx}{P:Program}{w:World}{K:PySem.W.Frag}{mg:Str→Option Value}{base:Heap}{x:Str}{k:Nat}{ps:List Str}{sp:Sp}{p pos:Pos}{e:Expr}{es:List Expr}{t:TA}(D:Def P w K mg base x k ps sp)(q:(X.prog,X.w,X.K,X.mg,X.base)=(P,w,K,mg,base))(hr:aW k X.A)(hg:Gl X x)(ha:PA X (e::es) t)
  (hdb:(x==("__debug__":Str))=false) (he:starEach (e::es) X.env=(false,eval e X.env)::starEach es X.env) (hpl:(backTo pos (starEach es X.env)).any (·.1)=false):PE X (.Call (.Name x p) (e::es) [] pos) (iw sp [] E0 t):=by
 cases q
 exact ya D hr hg ha hdb he hpl
theorem A1{N ps:List Str}{sc:Scope}{X:Cx}{n:Nat}{N':List Str}{scope:Scope}(_:Cm n N')(S:ak N ps sc)(e:X.env.scope=sc)(f:X.N=N)(h:oC n N' N sc scope):aM n N' X scope:=by
 subst e
 subst f
 exact h.at
theorem zbb{X:Cx}{N':List Str}{scope:Scope}{cl:List (Str×Addr)}{C:Addr}{ex:List Addr}{s:Shared}{H:Hp}(h:N'.Nodup):(ao X N' scope cl C ex s H).N.Nodup:=h
inductive Hn(k l c e:Nat):Prop where
 | mk:Hn k l c e
theorem aj(k l c e:Nat):Hn k l c e:=.mk
inductive Hc(l c e n:Nat)(N:List Str):Prop where
 | mk:Hc l c e n N
theorem aT(l c e n:Nat)(N:List Str):Hc l c e n N:=.mk
theorem gE(k:Nat){X:Cx}{e:Expr}{t:TE}(_:Hn k e.pos.line e.pos.col e.pos.endCol)(d:PE X e t):PE X e t:=d
theorem gT(k:Nat){X:Cx}{e:Expr}{t:TT}(_:Hn k e.pos.line e.pos.col e.pos.endCol)(d:PT X e t):PT X e t:=d
theorem gS(k:Nat){X:Cx}{e:Stmt}{t:TS}(_:Hn k e.pos.line e.pos.col e.pos.endCol)(d:PS X e t):PS X e t:=d
theorem gI(k:Nat){X:Cx}{g e:Expr}{t:TI}(_:Hn k e.pos.line e.pos.col e.pos.endCol)(d:PI X g e t):PI X g e t:=d
theorem gG(k:Nat){X:Cx}{e:Expr}{t:TG}(_:Hn k e.pos.line e.pos.col e.pos.endCol)(d:PG X e t):PG X e t:=d
theorem gC{X:Cx}{e:Expr}{t:TE}{n:Nat}{N:List Str}(_:Hc e.pos.line e.pos.col e.pos.endCol n N)(d:Cm n N→PE X e t):PE X e t:=d .mk
theorem gD{X:Cx}{e:Stmt}{t:TS}{n:Nat}{N:List Str}(_:Hc e.pos.line e.pos.col e.pos.endCol n N)(d:Cm n N→PS X e t):PS X e t:=d .mk
local macro_rules | `(tactic| walk_at "S")=>`(tactic| first | with_reducible exact im |((with_reducible refine' bU ?a);case a=>walk_at "s")|((with_reducible refine' er ?a ?b);(case a=>walk_at "s");case b=>walk_at "S"))
local macro_rules | `(tactic| walk_at "s0")=>`(tactic| first
 | with_reducible exact ps_retN
 |((with_reducible refine' sW ?a);case a=>walk_at "e")
 |((with_reducible refine' jB ?a ?b ?c);(case a=>walk_at "t");(case b=>walk_at "S");case c=>walk_at "S")
 |((with_reducible refine' sV ?s0 ?a ?b ?c ?d ?e);(case s0=>exact ‹ak _ _ _›.nd);(case a=>walk_at "n");(case b=>walk_at "l");(case c=>walk_at "e");(case d=>rfl);case e=>exact .inl rfl)
 |((with_reducible refine' io ?a ?b);(case a=>walk_at "e");case b=>rfl)
 |((with_reducible refine' xP ?p0 ?r0 ?a ?b ?c ?d);(case p0=>exact PassesOwn.never);(case r0=>rfl);(case a=>walk_at "i");(case b=>walk_at "g");(case c=>walk_at "S");case d=>intro _;rfl)
 |((with_reducible refine' vt ?a ?b uB ?c ?d ls ?h0);(case h0=>intros;rfl);(case a=>walk_at "e");(case b=>walk_at "e");(case c=>walk_at "e");case d=>(first | with_reducible exact ip_add | exact yE))
 |((with_reducible refine' xN ?r0 ?s0 ?a ?b ?j0 ?c ?d ?e ?k0 ?f);(case r0=>rfl);(case s0=>exact ‹ak _ _ _›.nd);(case a=>walk_at "n");(case b=>walk_at "n");(case j0=>decide);(case c=>walk_at "L");(case d=>walk_at "L");(case e=>walk_at "a");(case k0=>rfl);case f=>rfl)
 |((with_reducible refine' xQ ?a ?b ?c);(case a=>walk_at "e");(case b=>walk_at "e");case c=>rfl)
 |((with_reducible refine' sU ?p0 ?a ?b);(case p0=>exact PassesOwn.never);(case a=>walk_at "t");case b=>walk_at "S")
 |((with_reducible refine' vo ?a);case a=>walk_at "S")
 | with_reducible exact iL (st:=.Raise _ _ _)
 |((with_reducible refine' xR ?a ?b ?c ?d ?e);(case a=>walk_at "e");(case b=>walk_at "g");(case c=>rfl);(case d=>rfl);case e=>rfl))
local macro_rules | `(tactic| walk_at "n")=>`(tactic| first | exact nth 0 rfl | exact nth 1 rfl | exact nth 2 rfl | exact nth 3 rfl | exact nth 4 rfl | exact nth 5 rfl | exact nth 6 rfl | exact nth 7 rfl | exact nth 8 rfl | exact nth 9 rfl | exact nth 10 rfl | exact nth 11 rfl)
local macro_rules | `(tactic| walk_at "l")=>`(tactic| refine' AJ ?S ?e ?h;(case S=>assumption);(case e=>rfl);case h=>decide +kernel)
local macro_rules | `(tactic| walk_at "v")=>`(tactic| first |((with_reducible refine' Al ?h);case h=>decide +kernel)|((with_reducible refine' Am ?h);case h=>decide +kernel)|((with_reducible refine' An ?S ?e ?h);(case S=>assumption);(case e=>rfl);case h=>decide +kernel))
local macro_rules | `(tactic| walk_at "b")=>`(tactic| first |((with_reducible refine' AQ ?h);case h=>decide +kernel)|((with_reducible refine' AO ?S ?e ?h);(case S=>assumption);(case e=>rfl);case h=>decide +kernel))
local macro_rules | `(tactic| walk_at "z")=>`(tactic| first | exact ‹Bl _›.n_len | exact ‹Bl _›.n_tuple | exact ‹Bl _›.n_list | exact ‹Bl _›.n_range | exact ‹Bl _›.n_isinstance | exact ‹Bl _›.n_str | exact ‹Bl _›.n_repr | exact ‹Bl _›.n_max | exact ‹Bl _›.n_abs | exact ‹Bl _›.n_divmod | exact ‹Bl _›.n_int | exact ‹Bl _›.n_all | exact ‹Bl _›.n_set | assumption)
local macro_rules | `(tactic| walk_at "e0")=>`(tactic| first
 | with_reducible exact dM | with_reducible exact kC | with_reducible exact zt | with_reducible exact x6
 |((with_reducible refine' gf (x:=Str.ofString "str") (v:=V.ty "str") ?a ?b uO ?d ?e ?f);(case d=>rfl);(case a=>walk_at "b");(case b=>walk_at "z");(case e=>decide +kernel);case f=>decide +kernel)
 |((with_reducible refine' gf (x:=Str.ofString "list") (v:=V.ty "list") ?a ?b pI ?d ?e ?f);(case d=>rfl);(case a=>walk_at "b");(case b=>walk_at "z");(case e=>decide +kernel);case f=>decide +kernel)
 |((with_reducible refine' gf (x:=Str.ofString "tuple") (v:=V.ty "tuple") ?a ?b mR ?d ?e ?f);(case d=>rfl);(case a=>walk_at "b");(case b=>walk_at "z");(case e=>decide +kernel);case f=>decide +kernel)
 |((with_reducible refine' gf (x:=Str.ofString "int") (v:=V.ty "int") ?a ?b uP ?d ?e ?f);(case d=>rfl);(case a=>walk_at "b");(case b=>walk_at "z");(case e=>decide +kernel);case f=>decide +kernel)
 |((with_reducible refine' gf (x:=Str.ofString "dict") (v:=V.ty "dict") ?a ?b pJ ?d ?e ?f);(case d=>rfl);(case a=>walk_at "b");(case b=>walk_at "z");(case e=>decide +kernel);case f=>decide +kernel)
 |((with_reducible refine' zq ?b ?q ?c ?a ?d);(case b=>with_reducible assumption);(case q=>rfl);(case c=>assumption);(case a=>walk_at "b");case d=>decide +kernel)
 |((with_reducible refine' tj ?a ?b ?c ?d);(case a=>walk_at "n");(case b=>walk_at "v");(case c=>decide +kernel);case d=>decide +kernel)
 |((with_reducible refine' gc ix_list ?a ?b ?r0);(case r0=>intro _ _;rfl);(case a=>walk_at "e");case b=>walk_at "e")
 |((with_reducible refine' tw u8 ?a ?b ?c);(case a=>walk_at "e");(case b=>walk_at "p");case c=>walk_at "p")
 |((with_reducible refine' lL ?o ?a ?b);(case o=>(first | with_reducible exact yi | with_reducible exact yc | with_reducible exact yf | with_reducible exact vJ | with_reducible exact yg | with_reducible exact ye));(case a=>walk_at "e");case b=>walk_at "e")
 |((with_reducible refine' ge ?o ?a ?b ?c);(case o=>walk_at "c");(case a=>walk_at "e");(case b=>walk_at "e");case c=>walk_at "m")
 |((with_reducible refine' kD ?a);case a=>walk_at "a")
 |((with_reducible refine' xY ?a);case a=>walk_at "a")
 |((with_reducible refine' zr ?a ?r0 ?b ?c ?d ?e ?f ?g);(case a=>with_reducible assumption);(case r0=>rfl);(case b=>exact ‹aW _ _›.mono (by first | decide | omega));(case c=>walk_at "b");(case d=>walk_at "a");(case e=>decide +kernel);(case f=>rfl);case g=>rfl)
 |((with_reducible refine' vC ?a ?b ?c ?d ?e ?f ?y0 ?z0 ?g ?h ?i ?j);(case e=>assumption);(case a=>assumption);(case b=>assumption);(case c=>exact ‹aW _ _›.mono (by first | decide | omega));(case d=>walk_at "b");(case f=>assumption);(case y0=>exact .nil);(case z0=>exact pd);(case g=>walk_at "a");(case h=>decide +kernel);(case i=>rfl);case j=>rfl)
 |((with_reducible refine' tF ?a ?b ?c ?d ?e ?f ?y0 ?z0 ?h);(case e=>assumption);(case a=>assumption);(case b=>assumption);(case c=>exact ‹aW _ _›.mono (by first | decide | omega));(case d=>walk_at "b");(case f=>assumption);(case y0=>exact .nil);(case z0=>exact pd);case h=>decide +kernel)
 |((with_reducible refine' cp ?c ?g ?m ?v ?a ?n ?d ?e ?f);(case v=>(first | with_reducible exact i7 | with_reducible exact wO | with_reducible exact yP | with_reducible exact yR | with_reducible exact q8 | with_reducible exact yQ));(case c=>(first | with_reducible exact dR | exact qV rfl | with_reducible exact uN | with_reducible exact mQ | exact qZ rfl | exact oo ‹aW _ _›));(case g=>walk_at "b");(case m=>walk_at "z");(case a=>walk_at "a");(case n=>decide +kernel);(case d=>decide +kernel);(case e=>rfl);case f=>rfl)
 |((with_reducible refine' qe ?c ?g ?m ?v ?a ?n ?d ?e ?f);(case v=>(first | with_reducible exact mR | with_reducible exact pI | with_reducible exact uP | with_reducible exact uO | with_reducible exact yO | with_reducible exact bt_range | with_reducible exact pJ));(case c=>(first | with_reducible exact ji | with_reducible exact kN | with_reducible exact qY | with_reducible exact call_str_int | exact qU rfl | with_reducible exact call_range1 | with_reducible exact ou));(case g=>walk_at "b");(case m=>walk_at "z");(case a=>walk_at "a");(case n=>decide +kernel);(case d=>decide +kernel);(case e=>rfl);case f=>rfl)
 |((with_reducible refine' x9 ?a ?r0);(case r0=>rfl);case a=>walk_at "e")
 |((with_reducible refine' eA (name:=Str.ofString "append") ?o1 ?o2 ?o3 ?o4 ?a ?b ?c ?d ?e ?f ?g);(case o1=>exact PySem.F.plainAttrs_list);(case o2=>exact PySem.F.slot_list_append);(case o3=>exact PySem.F.type_list_append);(case o4=>exact eN);(case a=>walk_at "e");(case b=>walk_at "a");(case c=>rfl);(case d=>rfl);(case e=>rfl);(case f=>rfl);case g=>rfl)
 |((with_reducible refine' eA (name:=Str.ofString "extend") ?o1 ?o2 ?o3 ?o4 ?a ?b ?c ?d ?e ?f ?g);(case o1=>exact PySem.F.plainAttrs_list);(case o2=>exact PySem.F.slot_list_extend);(case o3=>exact PySem.F.type_list_extend);(case o4=>exact qt);(case a=>walk_at "e");(case b=>walk_at "a");(case c=>rfl);(case d=>rfl);(case e=>rfl);(case f=>rfl);case g=>rfl)
 |((with_reducible refine' eA (name:=Str.ofString "pop") ?o1 ?o2 ?o3 ?o4 ?a ?b ?c ?d ?e ?f ?g);(case o1=>exact PySem.F.plainAttrs_list);(case o2=>exact PySem.F.slot_list_pop);(case o3=>exact PySem.F.type_list_pop);(case o4=>exact ue);(case a=>walk_at "e");(case b=>walk_at "a");(case c=>rfl);(case d=>rfl);(case e=>rfl);(case f=>rfl);case g=>rfl)
 |((with_reducible refine' nG (name:=Str.ofString "pop") ?o1 ?o2 ?o3 ?o4 ?a ?b ?c);(case o1=>exact PySem.F.plainAttrs_list);(case o2=>exact PySem.F.slot_list_pop);(case o3=>exact PySem.F.type_list_pop);(case o4=>exact uf);(case a=>walk_at "e");(case b=>rfl);case c=>rfl)
 |((with_reducible refine' nG (name:=Str.ofString "clear") ?o1 ?o2 ?o3 ?o4 ?a ?b ?c);(case o1=>exact PySem.F.plainAttrs_list);(case o2=>exact PySem.F.slot_list_clear);(case o3=>exact PySem.F.type_list_clear);(case o4=>exact ui);(case a=>walk_at "e");(case b=>rfl);case c=>rfl)
 |((with_reducible refine' eA (name:=Str.ofString "split") ?o1 ?o2 ?o3 ?o4 ?a ?b ?c ?d ?e ?f ?g);(case o1=>exact PySem.F.plainAttrs_str);(case o2=>exact PySem.F.slot_str_split);(case o3=>exact PySem.F.type_str_split);(case o4=>exact lZ);(case a=>walk_at "e");(case b=>walk_at "a");(case c=>rfl);(case d=>rfl);(case e=>rfl);(case f=>rfl);case g=>rfl)
 |((with_reducible refine' tE ?a ?o1 ?m ?f ?b ?d ?o3 ?o2 ?c);(case m=>assumption);(case o1=>walk_at "K");(case o2=>exact pd);(case o3=>exact .nil);(case f=>assumption);(case d=>assumption);(case a=>walk_at "e");(case b=>exact ‹aW _ _›.mono (by first | decide | omega));case c=>rfl)
 | with_reducible exact tG
 |((with_reducible refine' pe_not ?a);case a=>walk_at "e")
 |((with_reducible refine' tq mV ?a);case a=>walk_at "e")
 |((with_reducible refine' xZ ?a);case a=>walk_at "e")
 |((with_reducible refine' yb ?a ?b);(case a=>walk_at "e");case b=>walk_at "e")
 |((with_reducible refine' zp ?a ?b);(case a=>walk_at "e");case b=>walk_at "e"))
local macro_rules | `(tactic| walk_at "c")=>`(tactic| first | with_reducible exact tJ | with_reducible exact tI | with_reducible exact zu | with_reducible exact zv | with_reducible exact zw | with_reducible exact op_ge | with_reducible exact qg | with_reducible exact kE | with_reducible exact op_isN | with_reducible exact vI)
local macro_rules | `(tactic| walk_at "m")=>`(tactic| first | exact iO _ | with_unfolding_all rfl)
local macro_rules | `(tactic| walk_at "p")=>`(tactic| first | with_reducible exact vy |((with_reducible refine' vw ?a);case a=>walk_at "e"))
local macro_rules | `(tactic| walk_at "a")=>`(tactic| first | with_reducible exact di | exact vH (by (constructor;constructor;constructor;repeat constructor))|((with_reducible refine' cV ?a ?b ?c);(case a=>walk_at "e");(case b=>walk_at "a");case c=>rfl))
local macro_rules | `(tactic| walk_at "t0")=>`(tactic| first
 |((with_reducible refine' sQ ?o ?p ?a ?b ?c ?d);(case o=>walk_at "c");(case p=>walk_at "c");(case a=>walk_at "e");(case b=>walk_at "e");(case c=>walk_at "e");case d=>with_unfolding_all rfl)
 |((with_reducible refine' PW.pt (e:=.BoolOp _ _ _) ?a);case a=>walk_at "w")
 |((with_reducible refine' sP ?a);case a=>walk_at "t")
 |((with_reducible refine' cD ?o ?a ?b ?c);(case o=>walk_at "c");(case a=>walk_at "e");(case b=>walk_at "e");case c=>walk_at "m")
 |((with_reducible refine' xL ?a ?b);(case a=>walk_at "e");case b=>intro _;rfl))
local macro_rules | `(tactic| walk_at "w")=>`(tactic| first |((with_reducible refine' sO ?a);case a=>walk_at "t")|((with_reducible refine' vn ?a);case a=>walk_at "t")|((with_reducible refine' xk ?a ?b);(case a=>walk_at "t");case b=>walk_at "w")|((with_reducible refine' xK ?a ?b);(case a=>walk_at "t");case b=>walk_at "w"))
local macro_rules | `(tactic| walk_at "i0")=>`(tactic| first
 |((with_reducible refine' qc ?a ?b ?c ?d);(case a=>walk_at "b");(case b=>walk_at "z");(case c=>walk_at "a");case d=>rfl)
 |((with_reducible refine' xT ?a ?b ?c ?d ?e);(case a=>walk_at "b");(case b=>walk_at "z");(case c=>walk_at "a");(case d=>rfl);case e=>rfl)
 |((with_reducible refine' sZ ?a ?b ?c ?d);(case a=>walk_at "b");(case b=>walk_at "z");(case c=>walk_at "a");case d=>rfl)
 |((with_reducible refine' o7 ?a);case a=>walk_at "e"))
local macro_rules | `(tactic| walk_at "g0")=>`(tactic| first
 |((with_reducible refine' kz ?s0 ?a ?b ?c);(case s0=>exact ‹ak _ _ _›.nd);(case a=>walk_at "n");(case b=>walk_at "l");case c=>exact .inl rfl)
 |((with_reducible refine' xW ?a ?b ls ?c);(case a=>walk_at "e");(case b=>walk_at "e");case c=>intro _;rfl)
 |((with_reducible refine' vA ?r0 ?a ?b ?c ?d);(case r0=>rfl);(case a=>walk_at "G");(case b=>rfl);(case c=>rfl);case d=>rfl)
 |((with_reducible refine' tf ?r0 ?a ?b ?c ?d);(case r0=>rfl);(case a=>walk_at "G");(case b=>rfl);(case c=>rfl);case d=>rfl)
 |((with_reducible refine' nE ?r0 ?a ?b ?c);(case r0=>rfl);(case a=>walk_at "G");(case b=>rfl);case c=>rfl))
local macro_rules | `(tactic| walk_at "G")=>`(tactic| first | with_reducible exact o9 |((with_reducible refine' lK ?a ?b ?c);(case a=>walk_at "g");(case b=>walk_at "G");case c=>rfl))
local macro_rules | `(tactic| walk_at "L")=>`(tactic| refine' AK ?S ?e ?h;(case S=>assumption);(case e=>rfl);case h=>decide +kernel)
local macro_rules | `(tactic| walk_at "S1")=>`(tactic| refine' bU ?a;case a=>walk_at "s")
local macro_rules | `(tactic| walk_at "S2")=>`(tactic| refine' er ?a ?b;(case a=>walk_at "s");case b=>walk_at "S")
local macro_rules | `(tactic| walk_at "s")=>`(tactic| first
 |((with_reducible refine' gS 24 ?hh ?dd);(case hh=>assumption);case dd=>((with_reducible refine' gD ?hh ?dd);(case hh=>assumption);case dd=>(intro _;((with_reducible refine' xO ?w);case w=>((with_reducible refine' gY ?o1 ?a ?b ?o3 ?o2 ?o4 ?S ?i ?g ?c ?e ?h ?j);(case S=>walk_at "C");(case o1=>exact ‹ak _ _ _›.nd);(case o2=>exact gQ);(case o3=>rfl);(case o4=>rfl);(case a=>walk_at "n");(case b=>walk_at "l");(case i=>walk_at "i");(case g=>intro _ _ _ _ _;walk_at "q");(case c=>intro _ _ _ _ _;walk_at "t");(case e=>intro _ _ _ _ _;walk_at "e");(case h=>intro _;rfl);case j=>exact .inl rfl)))))
 |((with_reducible refine' gD ?hh ?dd);(case hh=>assumption);case dd=>(intro _;((with_reducible refine' nB ?o1 ?a ?b ?o3 ?o2 ?o4 ?S ?i ?g ?e ?h ?j);(case S=>walk_at "C");(case o1=>exact ‹ak _ _ _›.nd);(case o2=>exact zF);(case o3=>rfl);(case o4=>rfl);(case a=>walk_at "n");(case b=>walk_at "l");(case i=>walk_at "i");(case g=>intro _ _ _ _ _;walk_at "q");(case e=>intro _ _ _ _ _;walk_at "e");(case h=>intro _;rfl);case j=>exact .inl rfl)))
 |((with_reducible refine' gS 20 ?hh ?dd);(case hh=>assumption);case dd=>((with_reducible refine' vq ?o1 ?a ?b ?c ?o2);(case o1=>exact mE ‹aW _ _›);(case o2=>rfl);(case a=>walk_at "e");(case b=>walk_at "e");case c=>walk_at "e"))
 |((with_reducible refine' gD ?hh ?dd);(case hh=>assumption);case dd=>(intro _;((with_reducible refine' gY ?o1 ?a ?b ?o3 ?o2 ?o4 ?S ?i ?g ?c ?e ?h ?j);(case S=>walk_at "C");(case o1=>exact ‹ak _ _ _›.nd);(case o2=>exact gQ);(case o3=>rfl);(case o4=>rfl);(case a=>walk_at "n");(case b=>walk_at "l");(case i=>walk_at "i");(case g=>intro _ _ _ _ _;walk_at "q");(case c=>intro _ _ _ _ _;walk_at "t");(case e=>intro _ _ _ _ _;walk_at "e");(case h=>intro _;rfl);case j=>exact .inl rfl)))
 | walk_at "s0")
local macro_rules | `(tactic| walk_at "e")=>`(tactic| first
 |((with_reducible refine' gC ?hh ?dd);(case hh=>assumption);case dd=>(intro _;((with_reducible refine' vF ?o1 ?o2 ?S ?i ?g ?e ?h);(case S=>walk_at "C");(case o1=>exact zF);(case o2=>rfl);(case i=>walk_at "i");(case g=>intro _ _ _ _ _;walk_at "q");(case e=>intro _ _ _ _ _;walk_at "e");case h=>intro _;rfl)))
 |((with_reducible refine' gE 1 ?hh ?dd);(case hh=>assumption);case dd=>((with_reducible refine' eA ?o1 ?o2 ?o3 ?o4 ?a ?b ?c ?d ?e ?f ?g);(case o1=>exact PySem.F.plainAttrs_str);(case o2=>exact PySem.F.slot_str_join);(case o3=>exact PySem.F.type_str_join);(case o4=>exact wk);(case a=>walk_at "e");(case b=>walk_at "a");(case c=>rfl);(case d=>rfl);(case e=>rfl);(case f=>rfl);case g=>rfl))
 |((with_reducible refine' gE 2 ?hh ?dd);(case hh=>assumption);case dd=>((with_reducible refine' lL nH ?a ?b);(case a=>walk_at "e");case b=>walk_at "e"))
 |((with_reducible refine' gE 3 ?hh ?dd);(case hh=>assumption);case dd=>((with_reducible refine' gc uv ?a ?b ?o1);(case o1=>intro _ _;rfl);(case a=>walk_at "e");case b=>walk_at "e"))
 |((with_reducible refine' gE 4 ?hh ?dd);(case hh=>assumption);case dd=>((with_reducible refine' cp ?o1 ?g ?m dj ?a ?n ?d ?e ?f);(case o1=>exact(qX (T:="list") (U:="tuple")));(case g=>walk_at "b");(case m=>walk_at "z");(case a=>walk_at "a");(case n=>decide +kernel);(case d=>decide +kernel);(case e=>rfl);case f=>rfl))
 |((with_reducible refine' gE 5 ?hh ?dd);(case hh=>assumption);case dd=>((with_reducible refine' cp ?o1 ?g ?m dj ?a ?n ?d ?e ?f);(case o1=>exact(jU (T:="str")));(case g=>walk_at "b");(case m=>walk_at "z");(case a=>walk_at "a");(case n=>decide +kernel);(case d=>decide +kernel);(case e=>rfl);case f=>rfl))
 |((with_reducible refine' gE 6 ?hh ?dd);(case hh=>assumption);case dd=>((with_reducible refine' ge jC ?a ?b ?c);(case a=>walk_at "e");(case b=>walk_at "e");case c=>walk_at "m"))
 |((with_reducible refine' gE 7 ?hh ?dd);(case hh=>assumption);case dd=>((with_reducible refine' cp kO ?g ?m i7 ?a ?n ?d ?e ?f);(case g=>walk_at "b");(case m=>walk_at "z");(case a=>walk_at "a");(case n=>decide +kernel);(case d=>decide +kernel);(case e=>rfl);case f=>rfl))
 |((with_reducible refine' gE 10 ?hh ?dd);(case hh=>assumption);case dd=>((with_reducible refine' cp qW ?g ?m i7 ?a ?n ?d ?e ?f);(case g=>walk_at "b");(case m=>walk_at "z");(case a=>walk_at "a");(case n=>decide +kernel);(case d=>decide +kernel);(case e=>rfl);case f=>rfl))
 |((with_reducible refine' gE 13 ?hh ?dd);(case hh=>assumption);case dd=>((with_reducible refine' gc ix_tup ?a ?b ?o1);(case o1=>intro _ _;rfl);(case a=>walk_at "e");case b=>walk_at "e"))
 |((with_reducible refine' gE 14 ?hh ?dd);(case hh=>assumption);case dd=>((with_reducible refine' lL tK ?a ?b);(case a=>walk_at "e");case b=>walk_at "e"))
 |((with_reducible refine' gE 16 ?hh ?dd);(case hh=>assumption);case dd=>((with_reducible refine' gc yC ?a ?b ?o1);(case o1=>intro _ _;rfl);(case a=>walk_at "e");case b=>walk_at "e"))
 |((with_reducible refine' gE 17 ?hh ?dd);(case hh=>assumption);case dd=>((with_reducible refine' vE ?o2 ?a ?b ?o1);(case o1=>intro _ _;rfl);(case o2=>exact mE ‹aW _ _›);(case a=>walk_at "e");case b=>walk_at "e"))
 |((with_reducible refine' gE 18 ?hh ?dd);(case hh=>assumption);case dd=>((with_reducible refine' lL yh ?a ?b);(case a=>walk_at "e");case b=>walk_at "e"))
 |((with_reducible refine' gC ?hh ?dd);(case hh=>assumption);case dd=>(intro _;((with_reducible refine' tH ?o1 ?o2 ?S ?i ?g ?e ?f ?h);(case S=>walk_at "C");(case o1=>exact gQ);(case o2=>rfl);(case i=>walk_at "i");(case g=>intro _ _ _ _ _;walk_at "q");(case e=>intro _ _ _ _ _;walk_at "e");(case f=>intro _ _ _ _ _;walk_at "e");case h=>intro _;rfl)))
 |((with_reducible refine' gE 22 ?hh ?dd);(case hh=>assumption);case dd=>((with_reducible refine' ge ?o1 ?a ?b ?c);(case o1=>exact(pf ‹aW _ _›.units0));(case a=>walk_at "e");(case b=>walk_at "e");case c=>walk_at "m"))
 |((with_reducible refine' gE 26 ?hh ?dd);(case hh=>assumption);case dd=>((with_reducible refine' ge ?o1 ?a ?b ?c);(case o1=>exact(lM (mE ‹aW _ _›)));(case a=>walk_at "e");(case b=>walk_at "e");case c=>walk_at "m"))
 |((with_reducible refine' gE 28 ?hh ?dd);(case hh=>assumption);case dd=>((with_reducible refine' lL yd ?a ?b);(case a=>walk_at "e");case b=>walk_at "e"))
 |((with_reducible refine' gE 29 ?hh ?dd);(case hh=>assumption);case dd=>((with_reducible refine' ge ?o1 ?a ?b ?c);(case o1=>exact(pe ‹aW _ _›.units0));(case a=>walk_at "e");(case b=>walk_at "e");case c=>walk_at "m"))
 |((with_reducible refine' gE 31 ?hh ?dd);(case hh=>assumption);case dd=>((with_reducible refine' eA ?o1 ?o2 ?o3 ?o4 ?a ?b ?c ?d ?e ?f ?g);(case o1=>exact PySem.F.plainAttrs_str);(case o2=>exact PySem.F.slot_str_join);(case o3=>exact PySem.F.type_str_join);(case o4=>exact uh);(case a=>walk_at "e");(case b=>walk_at "a");(case c=>rfl);(case d=>rfl);(case e=>rfl);(case f=>rfl);case g=>rfl))
 |((with_reducible refine' gE 32 ?hh ?dd);(case hh=>assumption);case dd=>((with_reducible refine' eA ?o1 ?o2 ?o3 ?o4 ?a ?b ?c ?d ?e ?f ?g);(case o1=>exact PySem.F.plainAttrs_str);(case o2=>exact PySem.F.slot_str_join);(case o3=>exact PySem.F.type_str_join);(case o4=>exact ug);(case a=>walk_at "e");(case b=>walk_at "a");(case c=>rfl);(case d=>rfl);(case e=>rfl);(case f=>rfl);case g=>rfl))
 |((with_reducible refine' gE 34 ?hh ?dd);(case hh=>assumption);case dd=>((with_reducible refine' eA ?o1 ?o2 ?o3 ?o4 ?a ?b ?c ?d ?e ?f ?g);(case o1=>exact PySem.F.plainAttrs_tuple);(case o2=>exact PySem.F.slot_tuple_index);(case o3=>exact PySem.F.type_tuple_index);(case o4=>exact qr);(case a=>walk_at "e");(case b=>walk_at "a");(case c=>rfl);(case d=>rfl);(case e=>rfl);(case f=>rfl);case g=>rfl))
 |((with_reducible refine' gE 35 ?hh ?dd);(case hh=>assumption);case dd=>((with_reducible refine' cp ?o1 ?g ?m dj ?a ?n ?d ?e ?f);(case o1=>exact(jU (T:="list")));(case g=>walk_at "b");(case m=>walk_at "z");(case a=>walk_at "a");(case n=>decide +kernel);(case d=>decide +kernel);(case e=>rfl);case f=>rfl))
 | walk_at "e0")
local macro_rules | `(tactic| walk_at "t")=>`(tactic| first
 |((with_reducible refine' gT 9 ?hh ?dd);(case hh=>assumption);case dd=>((with_reducible refine' cD jC ?a ?b ?c);(case a=>walk_at "e");(case b=>walk_at "e");case c=>walk_at "m"))
 |((with_reducible refine' gT 19 ?hh ?dd);(case hh=>assumption);case dd=>((with_reducible refine' xM ?x ?y);(case x=>refine' qf (mE ‹aW _ _›) ?a ?b;(case a=>walk_at "e");case b=>walk_at "e");case y=>with_unfolding_all rfl))
 |((with_reducible refine' gT 25 ?hh ?dd);(case hh=>assumption);case dd=>((with_reducible refine' cD ?o1 ?a ?b ?c);(case o1=>exact(pf ‹aW _ _›.units0));(case a=>walk_at "e");(case b=>walk_at "e");case c=>walk_at "m"))
 |((with_reducible refine' gT 27 ?hh ?dd);(case hh=>assumption);case dd=>((with_reducible refine' cD ?o1 ?a ?b ?c);(case o1=>exact(lM (mE ‹aW _ _›)));(case a=>walk_at "e");(case b=>walk_at "e");case c=>walk_at "m"))
 |((with_reducible refine' gT 30 ?hh ?dd);(case hh=>assumption);case dd=>((with_reducible refine' cD ?o1 ?a ?b ?c);(case o1=>exact(pe ‹aW _ _›.units0));(case a=>walk_at "e");(case b=>walk_at "e");case c=>walk_at "m"))
 |((with_reducible refine' gT 33 ?hh ?dd);(case hh=>assumption);case dd=>((with_reducible refine' iK ?a ?o1);(case o1=>intro _;rfl);case a=>walk_at "e"))
 | walk_at "t0")
local macro_rules | `(tactic| walk_at "i")=>`(tactic| first
 |((with_reducible refine' gI 8 ?hh ?dd);(case hh=>assumption);case dd=>((with_reducible refine' xU ?a);case a=>walk_at "e"))
 |((with_reducible refine' gI 11 ?hh ?dd);(case hh=>assumption);case dd=>((with_reducible refine' xV ?a);case a=>walk_at "e"))
 |((with_reducible refine' gI 15 ?hh ?dd);(case hh=>assumption);case dd=>((with_reducible refine' sX ?a);case a=>walk_at "e"))
 |((with_reducible refine' gI 21 ?hh ?dd);(case hh=>assumption);case dd=>((with_reducible refine' sY ?a ?b ?c ?d);(case a=>walk_at "b");(case b=>walk_at "z");(case c=>walk_at "a");case d=>rfl))
 |((with_reducible refine' gI 23 ?hh ?dd);(case hh=>assumption);case dd=>((with_reducible refine' vz ?a);case a=>walk_at "e"))
 | walk_at "i0")
local macro_rules | `(tactic| walk_at "g")=>`(tactic| first
 |((with_reducible refine' gG 12 ?hh ?dd);(case hh=>assumption);case dd=>((with_reducible refine' xX ?o1 ?a ?b ?c);(case o1=>rfl);(case a=>walk_at "G");(case b=>rfl);case c=>rfl))
 | walk_at "g0")
local macro_rules | `(tactic| walk_at "C")=>`(tactic| refine' A1 ?C ?S ?e ?f ?h;(case C=>assumption);(case S=>assumption);(case e=>rfl);(case f=>rfl);case h=>exact⟨rfl,by decide +kernel,by decide +kernel,by decide +kernel,by decide +kernel,rfl,by decide +kernel⟩)
local macro_rules | `(tactic| walk_at "F")=>`(tactic| exact⟨rfl,rfl,rfl,by decide +kernel,rfl,by decide +kernel,by decide +kernel⟩)
local macro_rules | `(tactic| walk_at "q")=>`(tactic| first |((with_reducible refine' kz ?s ?a ?b ?c);(case a=>walk_at "n");(case s=>refine' zbb ?h;case h=>decide +kernel);(case b=>exact AI (by decide +kernel));case c=>exact .inr (lookup_relabel_local (by decide +kernel))) | (refine' nE ?r ?y ?z ?x;(case r=>rfl);(case y=>walk_at "Q");(case z=>rfl);case x=>rfl))
local macro_rules | `(tactic| walk_at "Q")=>`(tactic| first | with_reducible exact o9 |((with_reducible refine' lK ?a ?b ?c);(case a=>walk_at "q");(case b=>walk_at "Q");case c=>rfl))
section
inductive spCellI(K:PySem.W.Frag)(vs:List V)(H:Hp)(Q:VK):Prop where
 | mk:∀ (a:Addr) (ns:List Int) (k:Nat),vs=[.ref a,.int k]→SqL K H a (ns.map V.int)→(∀ n,Q (.int n) H)→spCellI K vs H Q
def rZ:Sp:=fun vs H Q _=>spCellI K vs H Q
abbrev fm:Stmt:=top 49
theorem zbc:ak ["_law_script","_law_k"] ["_law_script","_law_k"] (af fm):=by walk_at "F"
theorem wb(F:am K mg "_law_cell" fm ["_law_script","_law_k"])(Z:Bl mg):Def P w K mg base "_law_cell" 1 ["_law_script","_law_k"] (rZ (K:=K)):=by
 have SC:=zbc
 refine F.mk' (k:=0) zbc (fun vs H Q E h=>?_) (fun f cdv A outer s H vs Q E hr h=>?_)
 ·obtain⟨a,ns,k,rfl,_⟩:=h
  rfl
 ·obtain⟨a,ns,k,rfl,hS,q⟩:=h
  refine'⟨_,?derivation,?_⟩
  case derivation=>(walk_at "S2")
  refine⟨_,rfl,_,rfl,a,_,rfl,.inl hS,_,_,rfl,rfl,_,rfl,?_⟩
  refine yD (fun hc=>?_) (fun hc=>q 0)
  have hc:(k:Int)<((ns.map V.int).length:Int):=of_decide_eq_true hc
  rw [List.length_map] at hc
  have hk:k<ns.length:=by omega
  refine⟨_,rfl,_,rfl,a,_,_,_,rfl,rfl,hS,pK (v:=V.int ns[k]) (by simp [hk]),q _⟩
def bc(H:Hp)(p:Addr):Prop:=∃ a b c:Int,H p=some (.lst [.int a,.int b,.int c])∧0≤a∧0≤b∧b<4294967296
inductive spPotI(vs:List V)(H:Hp)(Q:VK):Prop where
 | mk:∀ n:Int,vs=[.int n]→(∀ p H',H p=none→bc H' p→Same H H'→Q (.ref p) H')→spPotI vs H Q
def xg:Sp:=fun vs H Q _=>spPotI vs H Q
abbrev gv:Stmt:=top 50
theorem zbd:ak ["_law_cell_here"] ["_law_cell_here"] (af gv):=by walk_at "F"
theorem yq(F:am K mg "_law_pot" gv ["_law_cell_here"])(Z:Bl mg):Def P w K mg base "_law_pot" 1 ["_law_cell_here"] xg:=by
 have SC:=zbd
 refine F.mk' (k:=0) zbd (fun vs H Q E h=>?_) (fun f cdv A outer s H vs Q E hr h=>?_)
 ·obtain⟨n,rfl,_⟩:=h
  rfl
 ·obtain⟨n,rfl,q⟩:=h
  refine'⟨_,?derivation,?_⟩
  case derivation=>(walk_at "S1")
  refine⟨_,rfl,_,rfl,_,_,rfl,rfl,⟨by decide,by decide,by decide⟩,_,_,rfl,rfl,_,_,rfl,?_⟩
  refine⟨_,rfl,_,rfl,_,_,rfl,rfl,(by show (0:Int)<2147483629; decide),_,_,rfl,rfl,(by show 3≤sizeLine; decide),fun p hp=>?_⟩
  refine q p _ hp ⟨_,_,_,aa,?_,?_,?_⟩ (ac hp _)
  ·split <;> omega
  ·have:=Int.emod_nonneg (if n<0 then -n else n) (b:=2147483629) (by decide)
   omega
  ·have:=Int.emod_lt_of_pos (if n<0 then -n else n) (b:=2147483629) (by decide)
   omega
inductive spDrawI(vs:List V)(H:Hp)(Q:VK):Prop where
 | mk:∀ (p:Addr) (m:Int),vs=[.ref p,.int m]→bc H p→0<m→m<1000→(∀ (r:Int) H',0≤r→r<m→bc H' p→ax p H H'→Q (.int r) H')→spDrawI vs H Q
def ca:Sp:=fun vs H Q _=>spDrawI vs H Q
abbrev fj:Stmt:=top 51
theorem zbe:ak ["_law_pot_here","_law_many","_law_digit"] ["_law_pot_here","_law_many"] (af fj):=by walk_at "F"
theorem vZ(F:am K mg "_law_draw" fj ["_law_pot_here","_law_many"])(Z:Bl mg):Def P w K mg base "_law_draw" 1 ["_law_pot_here","_law_many"] ca:=by
 have SC:=zbe
 refine F.mk' (k:=0) zbe (fun vs H Q E h=>?_) (fun f cdv A outer s H vs Q E hr h=>?_)
 ·obtain⟨p,m,rfl,_⟩:=h
  rfl
 ·obtain⟨p,m,rfl,⟨a,b,c,hp,ha,hb,hb2⟩,hm,hm2,q⟩:=h
  refine'⟨_,?derivation,?_⟩
  case derivation=>(walk_at "S2")
  refine⟨_,rfl,p,_,_,_,rfl,rfl,SqL.of hp,rfl,_,_,rfl,rfl,_,rfl,?_⟩
  refine yD (fun hc=>?_) (fun hc=>?_)
  ·refine⟨_,rfl,p,_,_,_,rfl,rfl,SqL.of hp,rfl,_,rfl,_,_,rfl,⟨hm,by omega⟩,fun t ht=>?_⟩
   have npt:p≠t:=ae hp ht
   refine⟨t,_,rfl,SqT.of aa,rfl,_,_,rfl,_,rfl,p,_,_,_,rfl,rfl,(by rw [ad npt]; exact hp),rfl,_,_,rfl,⟨rfl,_,rfl,?_⟩⟩
   refine q _ _ (Int.emod_nonneg _ (by omega)) (Int.emod_lt_of_pos _ hm) ⟨_,_,_,aa,Int.ediv_nonneg ha (by omega),hb,hb2⟩ (fun b o n e=>?_)
   rw [ad n,ad (ae e ht)]; exact e
  ·refine⟨_,rfl,p,_,_,_,rfl,rfl,SqL.of hp,rfl,_,_,rfl,rfl,.inr ⟨by decide,by decide⟩,_,_,rfl,rfl,_,_,rfl,rfl,(by show (0:Int)<2147483647; decide),?_⟩
   have g0:0≤(b*48271+11) % 2147483647:=Int.emod_nonneg _ (by decide)
   have g1:(b*48271+11) % 2147483647<2147483647:=Int.emod_lt_of_pos _ (by decide)
   refine⟨_,rfl,p,_,_,_,rfl,rfl,hp,rfl,?_⟩
   refine⟨_,rfl,p,_,_,_,rfl,rfl,SqL.of aa,rfl,_,rfl,p,_,_,_,rfl,rfl,SqL.of aa,rfl,_,_,rfl,rfl,.inl ⟨by omega,by omega⟩,_,_,rfl,rfl,(by show (0:Int)<2147483629; decide),_,_,rfl,rfl,⟨by decide,by decide⟩,_,rfl,_,_,rfl,rfl,hm,?_⟩
   refine q _ _ (Int.emod_nonneg _ (by omega)) (Int.emod_lt_of_pos _ hm) ⟨_,_,_,aa,ha,g0,by omega⟩ (fun b o n e=>?_)
   rw [ad n]; exact e
structure av(p:Addr)(H H':Hp):Prop where
 pot:bc H' p
 same:ax p H H'
theorem bc.keep{H H':Hp}{p:Addr}(h:bc H p)(s:Same H H'):bc H' p:=let ⟨a,b,c,e,r⟩:=h; ⟨a,b,c,s _ _ e,r⟩
theorem bc.some{H:Hp}{p:Addr}(h:bc H p):∃ o,H p=some o:=let ⟨_,_,_,e,_⟩:=h; ⟨_,e⟩
inductive spUnlikeI(K:PySem.W.Frag)(vs:List V)(H:Hp)(Q:VK):Prop where
 | mk:∀ (p a:Addr) (m:Nat) (xs:List Str),vs=[.ref p,.int m,.ref a]→bc H p→SqL K H a (xs.map V.str)→m≤xs.length→xs.length<100→xs.Nodup→(∀ l (ys:List Str) H',H l=none→H' l=some (.lst (ys.map V.str))→ys.length=m→ys.Nodup→(∀ y∈ys,y∈xs)→av p H H'→Q (.ref l) H')→spUnlikeI K vs H Q
def lm:Sp:=fun vs H Q _=>spUnlikeI K vs H Q
abbrev dI:Stmt:=top 52
theorem zbf:ak ["_law_pot_here","_law_many","_law_menu","_law_left"] ["_law_pot_here","_law_many","_law_menu"] (af dI):=by walk_at "F"
theorem qh(F:am K mg "_law_unlike" dI ["_law_pot_here","_law_many","_law_menu"])(Z:Bl mg)(D_law_draw:Def P w K mg base "_law_draw" 1 ["_law_pot_here","_law_many"] ca):Def P w K mg base "_law_unlike" 2 ["_law_pot_here","_law_many","_law_menu"] (lm (K:=K)):=by
 have SC:=zbf
 refine F.mk' (k:=1) zbf (fun vs H Q E h=>?_) (fun f cdv A outer s H vs Q E hr h=>?_)
 ·obtain⟨p,a,m,xs,rfl,_⟩:=h
  rfl
 ·obtain⟨p,a,m,xs,rfl,hp,ha,hm,hx,hn,q⟩:=h
  refine'⟨_,?derivation,?_⟩
  case derivation=>(have:=aT 256 11 99 1 ["_law_k","_law_pot_here","_law_many","_law_menu","_law_left"]; walk_at "S2")
  refine⟨_,rfl,a,_,rfl,.inl ha,fun L hL=>?_⟩
  refine⟨_,rfl,m,rfl,by omega,by omega,?_⟩
  intro cl C ex s0 H0
  have hpL:p≠L:=by obtain⟨o,e⟩:=hp.some; exact ae e hL
  refine aN m (fun i ys H1=>∃ zs ws:List Str,H1 L=some (.lst (zs.map V.str))∧zs.length+i=xs.length∧ys=ws.map V.str∧(ws++zs).Nodup∧(∀ y∈ws++zs,y∈xs)∧av p H H1) (fun _ _=>True)
   ⟨xs,[],aa,rfl,rfl,hn,fun y hy=>hy,hp.keep (ac hL _),(ac hL _).x⟩ (Nat.le_trans (Nat.le_trans hm (by omega)) (show 100≤sizeLine by decide)) (fun i ys H1 hi _ _=>⟨hi,fun x H' y=>⟨y.1,trivial⟩⟩) (fun _ _ _ _=>Nat.le_refl _) ?_ ?_
  ·rintro i x ys H1 hi _ hy ⟨zs,ws,hzL,hzl,rfl,hnd,hsub,W⟩
   refine⟨_,rfl,.inl ⟨rfl,_,SqL.of hzL⟩,_,rfl,_,rfl,L,_,rfl,.inl (SqL.of hzL),p,_,rfl,W.pot,?_,?_,fun r H2 h0 h1 hp2 s2=>?_⟩
   ·rw [List.length_map]; omega
   ·rw [List.length_map]; omega
   ·rw [List.length_map] at h1
    have hr':r.toNat<zs.length:=by omega
    have hzL2:H2 L=some (.lst (zs.map V.str)):=s2 L _ (Ne.symm hpL) hzL
    refine⟨L,_,r,r.toNat,V.str zs[r.toNat],rfl,rfl,hzL2,by omega,by omega,zf h0 (by rw [List.length_map]; omega),by simp [hr'],?_⟩
    refine⟨zs.eraseIdx r.toNat,ws++[zs[r.toNat]],?_,?_,by simp,?_,?_,?_,?_⟩
    ·rw [aa,jT]
    ·rw [List.length_eraseIdx_of_lt hr']; omega
    ·have pm:(zs[r.toNat]::zs.eraseIdx r.toNat).Perm zs:=fz zs _ hr'
     have pm2:(ws++[zs[r.toNat]]++zs.eraseIdx r.toNat).Perm (ws++zs):=by
      rw [List.append_assoc]
      exact List.Perm.append_left ws pm
     exact(List.Perm.nodup_iff pm2).mpr hnd
    ·intro y hy
     refine hsub y ?_
     have pm:(zs[r.toNat]::zs.eraseIdx r.toNat).Perm zs:=fz zs _ hr'
     have pm2:(ws++[zs[r.toNat]]++zs.eraseIdx r.toNat).Perm (ws++zs):=by
      rw [List.append_assoc]
      exact List.Perm.append_left ws pm
     exact(List.Perm.mem_iff pm2).mp hy
    ·obtain⟨a',b',c',e,r'⟩:=hp2
     exact⟨a',b',c',by rw [ad hpL]; exact e,r'⟩
    ·intro b o n e
     rw [ad (ae e hL)]
     exact s2 b o n (W.same b o n e)
  ·rintro ys H1 hy ⟨zs,ws,hzL,hzl,rfl,hnd,hsub,W⟩ D hD
   have hpD:p≠D:=by obtain⟨o,e⟩:=W.pot.some; exact ae e hD
   refine q D ws _ (W.same.free (Ne.symm hpD) hD) aa (by simpa using hy) (List.nodup_append.mp hnd).1 (fun y hy=>hsub y (List.mem_append_left _ hy)) ⟨W.pot.keep (ac hD _),W.same.same (ac hD _)⟩
end
def aK(z:Str):Prop:=1≤z.cps.toList.length∧z.cps.toList.length≤12∧∀ c∈z.cps.toList,97≤c∧c≤122
def sayWords:List Str:=["all","some","not","and","or"]
def eX(z:Str):Prop:=aK z∧¬ z∈sayWords
theorem bJ(z:Str):z.length=z.cps.toList.length:=by show z.cps.size=_; simp
theorem aG(a b:Str):(a++b).cps.toList=a.cps.toList++b.cps.toList:=by
 show (a.cps++b.cps).toList=_
 simp
def abc:Str:=Str.ofString "abcdefghijklmnopqrstuvwxyz"
theorem pL:abc.cps.toList.length=26:=by decide +kernel
theorem yT:∀ i,i<26→abc.cps.toList[i]? = some (97+i):=by decide +kernel
theorem pM{r:Int}(h0:0≤r)(h1:r<26):atI abc.cps.toList r=some (97+r.toNat):=bL h0 (yT _ (by omega))
theorem cu(z:Str):∀ ws:List Str,inV (V.str z) (ws.map V.str)=decide (z∈ws)
 | []=>rfl
 | x::r=>by
  have ih:=cu z r
  have e:inV (V.str z) ((x::r).map V.str)=(eqV (V.str x) (V.str z)||inV (V.str z) (r.map V.str)):=rfl
  rw [e,ih]
  have e2:eqV (V.str x) (V.str z)=decide (x=z):=by
   first
    | rfl
    | (unfold eqV; rw [Bool.beq_eq_decide_eq])
    | (unfold eqV; simp)
  rw [e2]
  by_cases h:x=z
  ·subst h; simp
  ·have h':¬ z=x:=fun e=>h e.symm
   simp [h,h']
section
theorem av.trans{p:Addr}{H H1 H2:Hp}(a:av p H H1)(b:av p H1 H2):av p H H2:=⟨b.pot,a.same.trans b.same⟩
theorem av.mk1{p:Addr}{H H1 H2:Hp}(a:av p H H1)(pt:bc H2 p)(s:ax p H1 H2):av p H H2:=⟨pt,a.same.trans s⟩
theorem av.new{p:Addr}{H H1:Hp}{l:Addr}(a:av p H H1)(h:H1 l=none)(o:HO):av p H (upd H1 l o):=⟨a.pot.keep (ac h o),a.same.same (ac h o)⟩
theorem av.put{p:Addr}{H H1:Hp}{l:Addr}(a:av p H H1)(n:p≠l)(h:H l=none)(o:HO):av p H (upd H1 l o):=
 ⟨let ⟨x,y,z,e,r⟩:=a.pot; ⟨x,y,z,by rw [ad n]; exact e,r⟩,fun b u nb e=>by rw [ad (ae e h)]; exact a.same b u nb e⟩
theorem av.ne{p l:Addr}{H H1:Hp}(a:av p H H1)(h:H1 l=none):p≠l:=by obtain⟨o,e⟩:=a.pot.some; exact ae e h
theorem av.free{p l:Addr}{H H1:Hp}(a:av p H H1)(h:H1 l=none):H l=none:=a.same.free (Ne.symm (a.ne h)) h
theorem av.refl{p:Addr}{H:Hp}(h:bc H p):av p H H:=⟨h,ax.refl _ _⟩
theorem av.at{p l:Addr}{H H1:Hp}{o:HO}(a:av p H H1)(n:l≠p)(h:H l=some o):H1 l=some o:=a.same l o n h
theorem av.seq{p l:Addr}{H H1:Hp}{xs:List V}(a:av p H H1)(n:l≠p)(h:SqL K H l xs):SqL K H1 l xs:=by
 rcases h with (h | ⟨o,h⟩) | h
 ·exact .inl (.inl (a.at n h))
 ·exact .inl (.inr ⟨o,a.at n h⟩)
 ·exact .inr h
end
def LT(H:Hp)(a:Addr)(xs:List V):Prop:=H a=some (.lst xs)∨H a=some (.tup xs)
theorem LT.mono{H H':Hp}{a:Addr}{xs:List V}(h:LT H a xs)(k:∀ o,H a=some o→H' a=some o):LT H' a xs:=h.elim (fun e=>.inl (k _ e)) fun e=>.inr (k _ e)
theorem LT.sq{K:PySem.W.Frag}{H:Hp}{a:Addr}{xs:List V}(h:LT H a xs):SqL K H a xs∨SqT K H a xs:=h.elim (fun e=>.inl (SqL.of e)) fun e=>.inr (SqT.of e)
theorem LT.isi2{K:PySem.W.Frag}{H:Hp}{p:Addr}{xs:List V}(h:LT H p xs):∃ (t:Value),dW K H (.ref p) t∧PySem.W.kitAny K t [.type "list",.type "tuple"]=Option.some true:=by
 rcases h with h | h
 ·exact⟨_,.lst h,qA K⟩
 ·exact⟨_,.tup h,nZ K⟩
structure uT(H:Hp)(a:Addr)(xs:List V)(J:It):Prop where
 go:∀ i H',(∀ o,H a=Option.some o→H' a=Option.some o)→i<xs.length→J.go i H'∧∀ x H'',J.yld i H' x H''→H''=H'∧xs[i]? = Option.some x
 stop:∀ H',(∀ o,H a=Option.some o→H' a=Option.some o)→J.stop xs.length H'
theorem LT.over{K:PySem.W.Frag}{H:Hp}{a:Addr}{xs:List V}{i:Nat}{σ:St}{R:It→Hp→Prop}(h:LT H a xs)(hv:σ[i]? = Option.some (Option.some (.ref a)))(k:∀ J,uT H a xs J→R J H):zO K (cT i) σ H R:=by
 rcases h with h | h
 ·exact .inl ⟨_,hv,a,rfl,⟨_,SqL.of h⟩,k _ ⟨fun i H' kp hi=>bm (SqL.of (kp _ h)) hi,fun H' kp=>aO (SqL.of (kp _ h))⟩⟩
 ·exact .inr ⟨_,hv,a,rfl,⟨_,SqT.of h⟩,k _ ⟨fun i H' kp hi=>og (SqT.of (kp _ h)) hi,fun H' kp=>ld (SqT.of (kp _ h))⟩⟩
theorem uT.loop{J:It}{H0:Hp}{a:Addr}{xs:List V}{g:TG}{tb:TS}{D:dn}{σ:St}{H:Hp}(O:uT H0 a xs J)(Pv:Nat→St→Hp→Prop)(h0:Pv 0 σ H)(hl:∀ i σ H,i≤xs.length→Pv i σ H→∀ o,H0 a=Option.some o→H a=Option.some o)
  (hs:∀ i x σ H,xs[i]? = Option.some x→Pv i σ H→g x σ H fun σ2 H2=>tb {D with nx:=Pv (i+1),ct:=Pv (i+1),bk:=D.nx} σ2 H2) (hd:∀ σ H,Pv xs.length σ H→D.nx σ H) :
  ∃ W:Nat→Nat→St→Hp→Prop,(∃ m,W 0 m σ H)∧∀ i m σ H,W i m σ H→
   (J.stop i H∧D.nx σ H)∨(J.go i H∧∃ N:St→Hp→Prop,(∀ σ' H',N σ' H'→∃ m',m'<m∧W (i+1) m' σ' H')∧∀ x H',J.yld i H x H'→g x σ H' fun σ2 H2=>tb {D with nx:=N,ct:=N,bk:=D.nx} σ2 H2):=by
 refine⟨fun i m σ H=>m=xs.length-i∧i≤xs.length∧Pv i σ H,⟨xs.length,by simp,Nat.zero_le _,h0⟩,?_⟩
 rintro i m σ H ⟨rfl,hi,p⟩
 have q:=hl i σ H hi p
 by_cases hlt:i<xs.length
 ·obtain⟨g1,g2⟩:=O.go i H q hlt
  refine .inr ⟨g1,Pv (i+1),fun σ' H' p'=>⟨xs.length - (i+1),by omega,rfl,hlt,p'⟩,fun x H' y=>?_⟩
  obtain⟨e,y'⟩:=g2 x H' y
  subst e
  exact hs i x σ _ y' p
 ·have e:i=xs.length:=by omega
  subst e
  exact .inl ⟨O.stop H q,hd σ H p⟩
theorem uT.comp{J:It}{H0:Hp}{a:Addr}{xs:List V}{te:TE}{σ:St}{H:Hp}{Q:VK}(O:uT H0 a xs J)(Pv:Nat→List V→Hp→Prop)(h0:Pv 0 [] H)(hz:xs.length≤sizeLine)(hl:∀ i ys H,i≤xs.length→Pv i ys H→∀ o,H0 a=Option.some o→H a=Option.some o)
  (hs:∀ i x ys H,xs[i]? = Option.some x→ys.length=i→Pv i ys H→te (Option.some x::σ) H fun v H3=>Pv (i+1) (ys++[v]) H3)
  (hd:∀ ys H,ys.length=xs.length→Pv xs.length ys H→∀ D,H D=none→Q (.ref D) (upd H D (.lst ys))):fS 1 J (aV 0) te σ H Q:=
 aN xs.length Pv (fun i x=>xs[i]? = Option.some x) h0 hz (fun i ys H hi hy p=>O.go i H (hl i ys H (Nat.le_of_lt hi) p) hi) (fun ys H hy p=>O.stop H (hl _ ys H (Nat.le_refl _) p)) (fun i x ys H hi hx hy p=>hs i x ys H hx hy p) hd
theorem ifT{c A B:Prop}[Decidable c](hc:c)(h:A):if c then A else B:=by rw [if_pos hc]; exact h
theorem ifF{c A B:Prop}[Decidable c](hc:¬ c)(h:B):if c then A else B:=by rw [if_neg hc]; exact h
theorem LT.same{H H':Hp}{a:Addr}{xs:List V}(h:LT H a xs)(s:Same H H'):LT H' a xs:=h.mono fun o e=>s a o e
theorem zM:∀ i,i<26→(!(Builtin.Str.occurrences abc ⟨#[97+i]⟩ 0 abc.length 1).isEmpty)=true:=by decide +kernel
theorem yF{c:Nat}(h0:97≤c)(h1:c≤122):(!(Builtin.Str.occurrences abc ⟨#[c]⟩ 0 abc.length 1).isEmpty)=true:=by
 have:=zM (c-97) (by omega)
 rwa [show 97+(c-97)=c by omega] at this
structure Gs(K:PySem.W.Frag)(mg:Str→Option Value):Prop where
 letters:∃ u,mg "LETTERS"=some u∧az (.str abc) u
 longest:∃ u,mg "LONGEST_NAME"=some u∧az (.int 12) u
 mkinds:∃ u,mg "MOST_KINDS"=some u∧az (.int 4) u
 msigns:∃ u,mg "MOST_SIGNS"=some u∧az (.int 8) u
 mplaces:∃ u,mg "MOST_PLACES"=some u∧az (.int 2) u
 words:∃ a,mg "WORDS_OF_SAYINGS"=some (.ref a)∧∀ H,SqT K H a (sayWords.map V.str)
theorem cG:∀ ws:List Str,(ws.map V.str).all eI=true
 | []=>rfl
 | x::r=>by
  show (eI (V.str x)&&(r.map V.str).all eI)=true
  rw [cG r]; rfl
theorem AE:¬ (("kept_ties":Str)="kept_kinds"):=by decide +kernel
theorem AH:¬ (("kept_functions":Str)="kept_kinds"):=by decide +kernel
theorem AG:¬ (("kept_functions":Str)="kept_ties"):=by decide +kernel
def flK(kt:Addr):List (Str×V):=putF "kept_kinds" (.ref kt) []
def flT(kt tt:Addr):List (Str×V):=putF "kept_ties" (.ref tt) (flK kt)
def flF(kt tt ft:Addr):List (Str×V):=putF "kept_functions" (.ref ft) (flT kt tt)
theorem jR(kt:Addr):(flK kt).lookup ("kept_kinds":Str)=some (.ref kt):=by unfold flK; rw [ah,if_pos rfl]
theorem jQ(kt tt:Addr):(flT kt tt).lookup ("kept_kinds":Str)=some (.ref kt):=by unfold flT; rw [ah,if_neg (fun z=>AE z.symm)]; exact jR kt
theorem uF(kt tt:Addr):(flT kt tt).lookup ("kept_ties":Str)=some (.ref tt):=by unfold flT; rw [ah,if_pos rfl]
theorem qP(kt tt ft:Addr):(flF kt tt ft).lookup ("kept_kinds":Str)=some (.ref kt):=by unfold flF; rw [ah,if_neg (fun z=>AH z.symm)]; exact jQ kt tt
theorem mG(kt tt ft:Addr):(flF kt tt ft).lookup ("kept_ties":Str)=some (.ref tt):=by unfold flF; rw [ah,if_neg (fun z=>AG z.symm)]; exact uF kt tt
theorem mH(kt tt ft:Addr):(flF kt tt ft).lookup ("kept_functions":Str)=some (.ref ft):=by unfold flF; rw [ah,if_pos rfl]
theorem wE(kt:Addr):(flK kt).length<1000:=Nat.lt_of_le_of_lt (ay _ _ _) (by decide)
theorem wy(kt tt:Addr):(flT kt tt).length<1000:=by
 have h1:=ay ("kept_ties":Str) (.ref tt) (flK kt)
 have h2:=ay ("kept_kinds":Str) (.ref kt) []
 unfold flT flK at *
 simp only [List.length_nil] at h2
 omega
theorem uE{kt tt ft:Addr}{m:Str}(h1:¬ m="kept_functions")(h2:¬ m="kept_ties")(h3:¬ m="kept_kinds"):(flF kt tt ft).lookup m=none:=by
 unfold flF flT flK
 rw [ah,if_neg h1,ah,if_neg h2,ah,if_neg h3]
 rfl
abbrev Any:Addr→Prop:=fun _=>True
def cP(H H':Hp):Prop:=∀ a xs,H a=some (.tup xs)→H' a=some (.tup xs)
theorem Same.tups{H H':Hp}(s:Same H H'):cP H H':=fun a xs e=>s a _ e
theorem fM{K:PySem.W.Frag}{H:Hp}{a b:Addr}{xs ys:List V}{Q:VK}(ha:H a=some (.tup xs))(hb:H b=some (.tup ys))(hl:xs.length+ys.length≤sizeLine)(q:∀ p H',H' p=some (.tup (xs++ys))→Same H H'→Q (.ref p) H'):nz K (.ref a) (.ref b) H Q:=by
 refine⟨a,b,xs,ys,rfl,rfl,SqT.of ha,SqT.of hb,hl,fun e=>?_,fun _ e=>?_,fun _ _ p hp=>q p _ aa (ac hp _)⟩
 ·subst e; exact q b H hb (Same.refl _)
 ·subst e; exact q a H (by rw [List.append_nil]; exact ha) (Same.refl _)
structure ClS(K:PySem.W.Frag)(C:Addr):Prop where
 cl:Cls K C
 nK:bd K C "kept_kinds"
 nT:bd K C "kept_ties"
 nF:bd K C "kept_functions"
local macro_rules | `(tactic| walk_at "K")=>`(tactic| exact ‹ClS _ _›.cl)
theorem jL:∀ (ys:List Str),(Str.join (Str.ofString "") ys).cps.toList=ys.flatMap fun y=>y.cps.toList
 | []=>by decide +kernel
 | [x]=>by simp [Str.join]
 | x::y::r=>by
  have ih:=jL (y::r)
  have e:Str.join (Str.ofString "") (x::y::r)=x++Str.ofString ""++Str.join (Str.ofString "") (y::r):=rfl
  rw [e,aG,aG,ih]
  have e0:(Str.ofString "").cps.toList=[]:=by decide +kernel
  rw [e0,List.flatMap_cons]
  simp
def gh(z:Str):Option Nat:=z.cps.toList.getLast?
theorem nO{f:Nat}{ws:List Str}(h:ws.map gh=(List.range ws.length).map fun i=>some (97+(f+i) % 26))(hl:ws.length≤26):ws.Nodup:=by
 have hn:(ws.map gh).Nodup:=by
  rw [h]
  refine List.pairwise_map.mpr ?_
  have : (List.range ws.length).Pairwise fun i j=>i<j∧j<ws.length:=by
   have a:=List.pairwise_lt_range (n:=ws.length)
   refine List.Pairwise.imp_of_mem ?_ a
   intro i j _ hj hij
   exact⟨hij,List.mem_range.mp hj⟩
  refine this.imp ?_
  intro i j hij e
  have e':97+(f+i) % 26=97+(f+j) % 26:=Option.some.inj e
  omega
 exact hn.of_map _ (fun _ _ h e=>h (congrArg gh e))
theorem nr:∀ z∈sayWords,eX (z++z):=by unfold eX aK; decide +kernel
section
abbrev d9:Stmt:=top 53
theorem zbg:ak ["_law_pot_here","_law_some","_law_letters","_law_first","_law_made","_law_k","_law_word"] ["_law_pot_here","_law_some"] (af d9):=by walk_at "F"
inductive spWordsI(K:PySem.W.Frag)(vs:List V)(H:Hp)(Q:VK):Prop where
 | mk:∀ (p a:Addr) (xs:List V),vs=[.ref p,.ref a]→bc H p→SqL K H a xs→p≠a→xs.length≤8→(∀ l (ys:List Str) H',H l=none→H' l=some (.lst (ys.map V.str))→ys.length=xs.length→ys.Nodup→(∀ y∈ys,eX y)→av p H H'→Q (.ref l) H')→spWordsI K vs H Q
def ig:Sp:=fun vs H Q _=>spWordsI K vs H Q
theorem tO(F:am K mg "_law_words" d9 ["_law_pot_here","_law_some"])(Z:Bl mg)(D_law_draw:Def P w K mg base "_law_draw" 1 ["_law_pot_here","_law_many"] ca):Def P w K mg base "_law_words" 2 ["_law_pot_here","_law_some"] (ig (K:=K)):=by
 have SC:=zbg
 refine F.mk' (k:=1) zbg (fun vs H Q E h=>?_) (fun f cdv A outer s H vs Q E hr h=>?_)
 ·obtain⟨p,a,xs,rfl,_⟩:=h
  rfl
 ·obtain⟨p,a,xs,rfl,hp,ha,hpa,hx,q⟩:=h
  refine'⟨_,?derivation,?_⟩
  case derivation=>(have:=aj 1 262 20 123; have:=aj 2 263 20 72; have:=aj 3 263 32 72; have:=aj 3 262 29 71; have:=aj 2 264 37 58; have:=aT 262 28 122 1 ["_law_j","_law_pot_here","_law_some","_law_letters","_law_first","_law_made","_law_k","_law_word"]; walk_at "S2")
  refine⟨_,rfl,p,_,rfl,hp,by decide,by decide,fun r0 H1 h0 h1 hp1 s1=>?_⟩
  have W1:av p H H1:=⟨hp1,s1⟩
  refine⟨by show 0≤sizeLine; decide,fun M hM=>?_⟩
  have W2:=W1.new hM (.lst [])
  have hpM:=W1.ne hM
  have hHM:=W1.free hM
  refine⟨_,rfl,a,xs,rfl,.inl (W2.seq (Ne.symm hpa) ha),_,rfl,by omega,by omega,?_⟩
  refine qM (n:=xs.length) (fun i σ H2=>∃ (ws:List Str) (v6 v5:Option V),σ=[some (.ref p),some (.ref a),some (.str abc),some (.int r0),some (.ref M),v5,v6]∧ws.length=i∧H2 M=some (.lst (ws.map V.str))∧ws.map gh=(List.range ws.length).map (fun i=>some (97+(r0.toNat+i) % 26))∧(∀ y∈ws,eX y)∧av p H H2)
   ⟨[],none,none,rfl,rfl,aa,rfl,(fun _ h=>nomatch h),W2⟩ ?_ ?_
  ·rintro i σ H2 hi ⟨ws,v6,v5,rfl,hwl,hM2,hlast,hsg,W3⟩
   refine⟨rfl,_,rfl,p,_,rfl,W3.pot,by decide,by decide,fun r1 H3 g0 g1 hp3 s3=>?_⟩
   have W4:=W3.mk1 hp3 s3
   refine⟨_,rfl,by omega,by omega,?_⟩
   intro cl C ex sc Hc
   refine aN r1.toNat (fun i ys H4=>∃ us:List Str,ys=us.map V.str∧(∀ u∈us,u.cps.toList.length=1∧∀ c∈u.cps.toList,97≤c∧c≤122)∧av p H3 H4) (fun _ _=>True)
    ⟨[],rfl,(fun _ h=>nomatch h),av.refl hp3⟩ (Nat.le_trans (show r1.toNat≤100 by omega) (show 100≤sizeLine by decide)) (fun i ys H1 hi _ _=>⟨hi,fun x H' y=>⟨y.1,trivial⟩⟩) (fun _ _ _ _=>Nat.le_refl _) ?_ ?_
   ·rintro j x ys H4 hj _ hy ⟨us,rfl,hus,W5⟩
    refine⟨_,rfl,_,rfl,p,_,rfl,W5.pot,by decide,by decide,fun r2 H5 k0 k1 hp5 s5=>?_⟩
    refine⟨abc,r2,_,rfl,rfl,by rw [bJ,pL]; decide,pM k0 k1,us++[⟨#[97+r2.toNat]⟩],by simp,fun u hu=>?_,W5.mk1 hp5 s5⟩
    rcases List.mem_append.mp hu with hu | hu
    ·exact hus u hu
    ·rw [List.mem_singleton.mp hu]
     refine⟨rfl,fun c hc=>?_⟩
     have : c=97+r2.toNat:=by simpa using hc
     omega
   ·rintro ys H4 hy ⟨us,rfl,hus,W5⟩ D hD
    have hul:us.length=r1.toNat:=by simpa using hy
    have W6:av p H (upd H4 D (.lst (us.map V.str))):=(W4.trans W5).new hD _
    have hM6:(upd H4 D (.lst (us.map V.str))) M=some (.lst (ws.map V.str)):=(W5.new hD _).at (Ne.symm hpM) (s3 M _ (Ne.symm hpM) hM2)
    have hjo:JoinOk (Str.ofString "") us=true:=by
     unfold JoinOk
     rw [StrLaws.joinFits (B:=1) (fun y hy=>by rw [bJ]; exact Nat.le_of_eq (hus y hy).1) (by
      have e0:(Str.ofString "").length=0:=by decide +kernel
      rw [e0,hul]; omega)]
     rfl
    refine⟨Str.ofString "",D,us,rfl,rfl,SqL.of aa,hjo,?_⟩
    have hjl:=jL us
    have hj1:((Str.join (Str.ofString "") us).cps.toList).length=us.length:=by
     rw [hjl,List.length_flatMap]
     have : ∀ l:List Str,(∀ u∈l,u.cps.toList.length=1)→(l.map fun y=>y.cps.toList.length).sum=l.length:=by
      intro l
      induction l with
      | nil=>intro _; rfl
      | cons u r ih=>intro h; rw [List.map_cons,List.sum_cons,ih fun x hx=>h x (List.mem_cons_of_mem _ hx),h u List.mem_cons_self,List.length_cons]; omega
     exact this us fun u hu=>(hus u hu).1
    have hj2:∀ c∈(Str.join (Str.ofString "") us).cps.toList,97≤c∧c≤122:=by
     rw [hjl]
     intro c hc
     obtain⟨u,hu,hcu⟩:=List.mem_flatMap.mp hc
     exact(hus u hu).2 c hcu
    generalize Str.join (Str.ofString "") us=wd at hj1 hj2
    have hm0:0≤(r0+(0+(i:Int))) % 26:=Int.emod_nonneg _ (by decide)
    have hm1:(r0+(0+(i:Int))) % 26<26:=Int.emod_lt_of_pos _ (by decide)
    refine⟨_,rfl,_,rfl,_,rfl,_,rfl,_,_,rfl,rfl,_,_,rfl,rfl,(by show (0:Int)<26; decide),abc,_,_,rfl,rfl,by rw [bJ,pL]; decide,pM hm0 hm1,_,_,rfl,rfl,?_,?_⟩
    ·rw [bJ,bJ]
     show wd.cps.toList.length+1≤sizeLine
     rw [hj1,hul]
     exact Nat.le_trans (show r1.toNat+1≤100 by omega) (by decide)
    have hc26:((r0+(0+(i:Int))) % 26).toNat=(r0.toNat+i) % 26:=by omega
    rw [hc26]
    have hw1:(wd++(⟨#[97+(r0.toNat+i) % 26]⟩:Str)).cps.toList=wd.cps.toList++[97+(r0.toNat+i) % 26]:=by rw [aG]
    generalize (wd++(⟨#[97+(r0.toNat+i) % 26]⟩:Str))=z at hw1
    have hzl:z.cps.toList.length≤12:=by rw [hw1,List.length_append,hj1,hul]; simp; omega
    have hz1:1≤z.cps.toList.length:=by rw [hw1,List.length_append]; simp
    have hzc:∀ c∈z.cps.toList,97≤c∧c≤122:=by
     rw [hw1]
     intro c hc
     rcases List.mem_append.mp hc with hc | hc
     ·exact hj2 c hc
     ·have : c=97+(r0.toNat+i) % 26:=by simpa using hc
      omega
    have hzlast:gh z=some (97+(r0.toNat+i) % 26):=by unfold gh; rw [hw1]; simp
    refine⟨_,rfl,.inl ⟨rfl,_,SqL.of hM6⟩,_,rfl,_,rfl,_,rfl,_,_,rfl,rfl,?_,by show 2≤sizeLine; decide,fun L2 hL2=>?_⟩
    ·rw [bJ]; exact Nat.le_trans (show z.cps.toList.length+z.cps.toList.length≤100 by omega) (by decide)
    refine⟨_,rfl,by show 5≤sizeLine; decide,fun T hT=>?_⟩
    have hTL:L2≠T:=ae aa hT
    refine⟨T,_,rfl,.inr (SqT.of aa),rfl,rfl,.inr ⟨_,rfl,?_⟩⟩
    have W7:=W6.new hL2 (.lst [.str z,.str (z++z)])
    have W8:=W7.new hT (.tup [.str "all",.str "some",.str "not",.str "and",.str "or"])
    have nML:M≠L2:=ae hM6 hL2
    have nMT:M≠T:=ae (by rw [ad nML]; exact hM6) hT
    have fin:∀ y:Str,eX y→gh y=some (97+(r0.toNat+i) % 26)→∃ (ws':List Str) (v6 v5:Option V),[some (V.ref p),some (V.ref a),some (V.str abc),some (V.int r0),some (V.ref M),some (V.int (0+(i:Int))),some (V.str z)]=[some (.ref p),some (.ref a),some (.str abc),some (.int r0),some (.ref M),v5,v6]∧ws'.length=i+1∧
      (upd (upd (upd (upd H4 D (.lst (us.map V.str))) L2 (.lst [.str z,.str (z++z)])) T (.tup [.str "all",.str "some",.str "not",.str "and",.str "or"])) M (.lst (ws.map V.str++[V.str y]))) M=some (.lst (ws'.map V.str))∧
      ws'.map gh=(List.range ws'.length).map (fun i=>some (97+(r0.toNat+i) % 26))∧(∀ y∈ws',eX y)∧av p H (upd (upd (upd (upd H4 D (.lst (us.map V.str))) L2 (.lst [.str z,.str (z++z)])) T (.tup [.str "all",.str "some",.str "not",.str "and",.str "or"])) M (.lst (ws.map V.str++[V.str y]))):=fun y h1 h2=>by
     refine⟨ws++[y],_,_,rfl,by simp [hwl],by rw [aa]; simp,?_,fun x hx=>?_,W8.put hpM hHM _⟩
     ·rw [List.map_append,hlast,List.length_append,List.length_singleton,List.range_succ,List.map_append,List.map_cons,List.map_nil,List.map_cons,List.map_nil,h2,hwl]
     ·rcases List.mem_append.mp hx with hx | hx
      ·exact hsg x hx
      ·rw [List.mem_singleton.mp hx]; exact h1
    have hML8:(upd (upd (upd H4 D (.lst (us.map V.str))) L2 (.lst [.str z,.str (z++z)])) T (.tup [.str "all",.str "some",.str "not",.str "and",.str "or"])) M=some (.lst (ws.map V.str)):=by rw [ad nMT,ad nML]; exact hM6
    have hLL8:(upd (upd (upd H4 D (.lst (us.map V.str))) L2 (.lst [.str z,.str (z++z)])) T (.tup [.str "all",.str "some",.str "not",.str "and",.str "or"])) L2=some (.lst [.str z,.str (z++z)]):=by rw [ad hTL,aa]
    have hwss:(ws.map V.str).length<sizeLine:=by rw [List.length_map]; exact Nat.lt_of_lt_of_le (show ws.length<100 by omega) (by decide)
    by_cases hin:z∈sayWords
    ·have e:inV (V.str z) (List.map V.str sayWords)=true:=(cu z sayWords).trans (decide_eq_true hin)
     refine⟨L2,_,_,V.str (z++z),rfl,rfl,SqL.of hLL8,?_,M,_,_,rfl,rfl,hML8,hwss,fin _ ?_ ?_⟩
     ·show atI [V.str z,V.str (z++z)] (if inV (V.str z) (List.map V.str sayWords)=true then 1 else 0)=some (V.str (z++z))
      rw [e]; rfl
     ·exact nr z hin
     ·unfold gh at hzlast ⊢
      rw [aG,List.getLast?_append,hzlast]; rfl
    ·have e:inV (V.str z) (List.map V.str sayWords)=false:=(cu z sayWords).trans (decide_eq_false hin)
     refine⟨L2,_,_,V.str z,rfl,rfl,SqL.of hLL8,?_,M,_,_,rfl,rfl,hML8,hwss,fin _ ⟨⟨hz1,hzl,hzc⟩,hin⟩ hzlast⟩
     show atI [V.str z,V.str (z++z)] (if inV (V.str z) (List.map V.str sayWords)=true then 1 else 0)=some (V.str z)
     rw [e]; rfl
  ·rintro σ H2 ⟨ws,v6,v5,rfl,hwl,hM2,hlast,hsg,W3⟩
   exact⟨_,rfl,q M ws H2 hHM hM2 hwl (nO hlast (by omega)) hsg W3⟩
end
structure ar where
 nm:Str
 ps:List Str
structure aq where
 nm:Str
 ps:List Str
 kd:Str
def cH(ws:List Str):List PyData:=ws.map PyData.str
def j3(t:ar):PyData:=.tuple [.str t.nm,.list (cH t.ps)]
def jh(t:aq):PyData:=.tuple [.str t.nm,.list (cH t.ps),.str t.kd]
def gm(ks:List Str)(ts:List ar)(fs:List aq):PyData:=.tuple [.list (cH ks),.list (ts.map j3),.list (fs.map jh)]
structure au(ks:List Str)(ts:List ar)(fs:List aq):Prop where
 kn:ks.Nodup
 k1:1≤ks.length
 k4:ks.length≤4
 kn2:∀ k∈ks,aK k
 sn:(ts.map (·.nm)++fs.map (·.nm)).Nodup
 sl:ts.length+fs.length≤8
 tn:∀ t∈ts,eX t.nm∧t.ps.length≤2∧∀ k∈t.ps,k∈ks
 fn:∀ t∈fs,eX t.nm∧t.ps.length≤2∧(∀ k∈t.ps,k∈ks)∧t.kd∈ks
def menuK:List Str:=["a","b","c","all","not","x","kind","size","r","f","abcdefghijkl"]
def menuS:List Str:=["r","s","q","f","g","c","x","say","holds","none","tie","next","zyxwvutsrqpo"]
theorem um:∀ k∈menuK,aK k:=by unfold aK; decide +kernel
theorem uk:∀ k∈menuS,eX k:=by unfold eX aK; decide +kernel
theorem uo:menuK.Nodup:=by decide +kernel
theorem ul:menuS.Nodup:=by decide +kernel
section
abbrev fo:Stmt:=top 54
theorem zbh:ak ["_law_pot_here","_law_most_kinds","_law_most_signs","_law_menu","_law_kinds","_law_names","_law_ties","_law_functions","_law_name","_law_places"] ["_law_pot_here","_law_most_kinds","_law_most_signs"] (af fo):=by walk_at "F"
inductive spBookI(vs:List V)(H:Hp)(Q:VK):Prop where
 | mk:∀ (p:Addr) (mk ms:Nat),vs=[.ref p,.int mk,.int ms]→bc H p→1≤mk→mk≤4→ms≤8→(∀ v H' ks ts fs,RdV (fun a=>H a=none) H' v (gm ks ts fs)→au ks ts fs→ks.length≤mk→ts.length+fs.length≤ms→av p H H'→Q v H')→spBookI vs H Q
def sd:Sp:=fun vs H Q _=>spBookI vs H Q
theorem wc(F:am K mg "_law_book" fo ["_law_pot_here","_law_most_kinds","_law_most_signs"])(Z:Bl mg)(D_law_draw:Def P w K mg base "_law_draw" 1 ["_law_pot_here","_law_many"] ca)
  (D_law_unlike:Def P w K mg base "_law_unlike" 2 ["_law_pot_here","_law_many","_law_menu"] (lm (K:=K))) (D_law_words:Def P w K mg base "_law_words" 2 ["_law_pot_here","_law_some"] (ig (K:=K))) :
  Def P w K mg base "_law_book" 3 ["_law_pot_here","_law_most_kinds","_law_most_signs"] sd:=by
 have SC:=zbh
 refine F.mk' (k:=2) zbh (fun vs H Q E h=>?_) (fun f cdv A outer s H vs Q E hr h=>?_)
 ·obtain⟨p,mk,ms,rfl,_⟩:=h
  rfl
 ·obtain⟨p,mk,ms,rfl,hp,hm1,hm4,hms,q⟩:=h
  refine'⟨_,?derivation,?_⟩
  case derivation=>(have:=aT 278 8 140 1 ["_law_k","_law_pot_here","_law_most_kinds","_law_most_signs","_law_menu","_law_kinds","_law_names","_law_ties","_law_functions","_law_name","_law_places"]; walk_at "S2")
  refine⟨by show 11≤sizeLine; decide,fun M1 hM1=>?_⟩
  have W1:=(av.refl hp).new hM1 (.lst (menuK.map V.str))
  refine⟨_,rfl,_,rfl,_,rfl,p,_,rfl,W1.pot,by omega,by omega,fun r1 H1 a0 a1 hp1 s1=>?_⟩
  have W2:=W1.mk1 hp1 s1
  have hM1':H1 M1=some (.lst (menuK.map V.str)):=s1 M1 _ (Ne.symm ((av.refl hp).ne hM1)) aa
  refine⟨_,_,rfl,rfl,_,rfl,p,M1,(1+r1).toNat,menuK,?_,hp1,SqL.of hM1',?_,by decide,uo,fun kA ks H2 hkA hkA2 hkl hknd hkin W3=>?_⟩
  ·show [V.ref p,V.int (1+r1),V.ref M1]=_
   rw [Int.toNat_of_nonneg (by omega)]
  ·show (1+r1).toNat≤11
   omega
  have W4:=W2.trans W3
  have kfree:H kA=none:=W2.free hkA
  refine⟨_,rfl,p,_,rfl,W4.pot,by decide,by decide,fun r2 H3 b0 b1 hp3 s3=>?_⟩
  refine⟨rfl,_,rfl,?_⟩
  have W5:=W4.mk1 hp3 s3
  have npk:kA≠p:=by rintro rfl; obtain⟨o,e⟩:=hp.some; rw [kfree] at e; cases e
  have hk3:H3 kA=some (.lst (ks.map V.str)):=s3 _ _ npk hkA2
  have key:∀ (D:dn) (c:Bool),(∀ (kA:Addr) (ks:List Str) (H3:Hp),H kA=none→H3 kA=some (.lst (ks.map V.str))→ks.length=(1+r1).toNat→ks.Nodup→(∀ k∈ks,aK k)→av p H H3→
     D.nx [some (.ref p),some (.int mk),some (.int ms),some (.ref M1),some (.ref kA),none,none,none,none,none] H3)→
    if c=true then j4 (iw (ig (K:=K)) [] E0 (d5 (cT 0) (d5 (cT 4) e7))) (aV 4) D [some (.ref p),some (.int mk),some (.int ms),some (.ref M1),some (.ref kA),none,none,none,none,none] H3
    else oJ D [some (.ref p),some (.int mk),some (.int ms),some (.ref M1),some (.ref kA),none,none,none,none,none] H3:=by
   intro D c k
   cases c
   ·rw [if_neg Bool.false_ne_true]
    exact k kA ks H3 kfree hk3 hkl hknd (fun k hk=>um k (hkin k hk)) W5
   ·rw [if_pos rfl]
    refine⟨_,rfl,_,rfl,p,kA,_,rfl,hp3,SqL.of hk3,Ne.symm npk,by rw [List.length_map]; omega,fun kB kt H4 hkB hkB2 hl4 hnd4 hsg4 W6=>?_⟩
    exact k kB kt H4 (W5.free hkB) hkB2 (by rw [hl4,List.length_map]; exact hkl) hnd4 (fun k hk=>(hsg4 k hk).1) (W5.trans W6)
  refine key _ _ ?_
  clear key hk3 npk W5 hp3 s3 b0 b1 W4 W3 hkin hknd hkl hkA2 hkA kfree kA ks H3 r2
  intro kA ks H3 kfree hk3 hkl hknd hknm W5
  have npk:kA≠p:=by rintro rfl; obtain⟨o,e⟩:=hp.some; rw [kfree] at e; cases e
  refine⟨by show 13≤sizeLine; decide,fun M2 hM2=>?_⟩
  have W6:=W5.new hM2 (.lst (menuS.map V.str))
  have hk6:(upd H3 M2 (.lst (menuS.map V.str))) kA=some (.lst (ks.map V.str)):=by rw [ad (ae hk3 hM2)]; exact hk3
  refine⟨_,rfl,_,rfl,_,rfl,_,_,rfl,rfl,p,_,rfl,W6.pot,by omega,by omega,fun r3 H7 c0 c1 hp7 s7=>?_⟩
  have W7:=W6.mk1 hp7 s7
  have hM7:H7 M2=some (.lst (menuS.map V.str)):=s7 M2 _ (Ne.symm (W5.ne hM2)) aa
  have hk7:H7 kA=some (.lst (ks.map V.str)):=s7 kA _ npk hk6
  refine⟨_,rfl,p,M2,r3.toNat,menuS,?_,hp7,SqL.of hM7,?_,by decide,ul,fun nA ns H8 hnA hnA2 hnl hnnd hnin W8=>?_⟩
  ·show [V.ref p,V.int r3,V.ref M2]=_
   rw [Int.toNat_of_nonneg c0]
  ·show r3.toNat≤13
   omega
  have W9:=W7.trans W8
  have nfree:H nA=none:=W7.free hnA
  have npn:nA≠p:=by rintro rfl; obtain⟨o,e⟩:=hp.some; rw [nfree] at e; cases e
  have hk8:H8 kA=some (.lst (ks.map V.str)):=W8.at npk hk7
  refine⟨_,rfl,p,_,rfl,W9.pot,by decide,by decide,fun r4 H9 d0 d1 hp9 s9=>?_⟩
  refine⟨rfl,_,rfl,?_⟩
  have W10:=W9.mk1 hp9 s9
  have hn9:H9 nA=some (.lst (ns.map V.str)):=s9 _ _ npn hnA2
  have hk9:H9 kA=some (.lst (ks.map V.str)):=s9 _ _ npk hk8
  have key:∀ (D:dn) (c:Bool),(∀ (nA:Addr) (ns:List Str) (H3:Hp),H nA=none→H3 nA=some (.lst (ns.map V.str))→H3 kA=some (.lst (ks.map V.str))→ns.length=r3.toNat→ns.Nodup→(∀ k∈ns,eX k)→av p H H3→
     D.nx [some (.ref p),some (.int mk),some (.int ms),some (.ref M2),some (.ref kA),some (.ref nA),none,none,none,none] H3)→
    if c=true then j4 (iw (ig (K:=K)) [] E0 (d5 (cT 0) (d5 (cT 5) e7))) (aV 5) D [some (.ref p),some (.int mk),some (.int ms),some (.ref M2),some (.ref kA),some (.ref nA),none,none,none,none] H9
    else oJ D [some (.ref p),some (.int mk),some (.int ms),some (.ref M2),some (.ref kA),some (.ref nA),none,none,none,none] H9:=by
   intro D c k
   cases c
   ·rw [if_neg Bool.false_ne_true]
    exact k nA ns H9 nfree hn9 hk9 hnl hnnd (fun k hk=>uk k (hnin k hk)) W10
   ·rw [if_pos rfl]
    refine⟨_,rfl,_,rfl,p,nA,_,rfl,hp9,SqL.of hn9,Ne.symm npn,by rw [List.length_map]; omega,fun kB kt H4 hkB hkB2 hl4 hnd4 hsg4 W6=>?_⟩
    exact k kB kt H4 (W10.free hkB) hkB2 (W6.at npk hk9) (by rw [hl4,List.length_map]; exact hnl) hnd4 hsg4 (W10.trans W6)
  refine key _ _ ?_
  clear key hk9 hn9 npn W10 hp9 s9 d0 d1 W9 W8 hnin hnnd hnl hnA2 hnA nfree nA ns H9 r4 hk8 H8
  intro nA ns H9 nfree hn9 hk9 hnl hnnd hnsg W10
  have npn:nA≠p:=by rintro rfl; obtain⟨o,e⟩:=hp.some; rw [nfree] at e; cases e
  refine⟨by show 0≤sizeLine; decide,fun tA htA=>?_⟩
  have W11:=W10.new htA (.lst [])
  refine⟨by show 0≤sizeLine; decide,fun fA hfA=>?_⟩
  have W12:=W11.new hfA (.lst [])
  have tfree:H tA=none:=W10.free htA
  have ffree:H fA=none:=W11.free hfA
  have ntf:tA≠fA:=ae aa hfA
  have hpt:p≠tA:=W10.ne htA
  have hpf:p≠fA:=W11.ne hfA
  have nkt:kA≠tA:=ae hk9 htA
  have nkf:kA≠fA:=ae (by rw [ad nkt]; exact hk9) hfA
  have nnt:nA≠tA:=ae hn9 htA
  have nnf:nA≠fA:=ae (by rw [ad nnt]; exact hn9) hfA
  have pne:∀ a,H a=none→a≠p:=fun a e=>by rintro rfl; obtain⟨o,e2⟩:=hp.some; rw [e] at e2; cases e2
  have keepR:∀ {H2 H3:Hp} {xs:List V} {ds:List PyData},ax p H2 H3→RdA (fun a=>H a=none∧a≠tA∧a≠fA) H2 xs ds→RdA (fun a=>H a=none∧a≠tA∧a≠fA) H3 xs ds:=fun s r=>r.mono (fun _ z=>z) fun a o z e=>s a o (pne a z.1) e
  refine⟨_,rfl,nA,rfl,⟨_,SqL.of (by rw [ad nnf,ad nnt]; exact hn9)⟩,dC (K:=K) (a:=nA) (xs:=ns.map V.str) (fun i σ H2=>∃ (ts:List ar) (fs:List aq) (tv fv:List V) (v8 v9:Option V),σ=[some (.ref p),some (.int mk),some (.int ms),some (.ref M2),some (.ref kA),some (.ref nA),some (.ref tA),some (.ref fA),v8,v9]∧
    H2 tA=some (.lst tv)∧RdA (fun a=>H a=none∧a≠tA∧a≠fA) H2 tv (ts.map j3)∧H2 fA=some (.lst fv)∧RdA (fun a=>H a=none∧a≠tA∧a≠fA) H2 fv (fs.map jh)∧
    (ts.map (·.nm)++fs.map (·.nm)).Perm (ns.take i)∧(∀ t∈ts,eX t.nm∧t.ps.length≤2∧∀ k∈t.ps,k∈ks)∧(∀ t∈fs,eX t.nm∧t.ps.length≤2∧(∀ k∈t.ps,k∈ks)∧t.kd∈ks)∧H2 kA=some (.lst (ks.map V.str))∧H2 nA=some (.lst (ns.map V.str))∧av p H H2)
   ⟨[],[],[],[],none,none,rfl,(by rw [ad ntf]; exact aa),.nil,aa,.nil,(by simp),(fun _ h=>nomatch h),(fun _ h=>nomatch h),(by rw [ad nkf,ad nkt]; exact hk9),(by rw [ad nnf,ad nnt]; exact hn9),W12⟩
   (fun i σ H2 _ ⟨_,_,_,_,_,_,_,_,_,_,_,_,_,_,_,z,_⟩=>SqL.of z) ?_ ?_⟩
  ·rintro i y σ H2 hi ⟨ts,fs,tv,fv,v8,v9,rfl,hT,rT,hF,rF,hperm,okT,okF,hK,hN,W⟩
   have hil:i<ns.length:=by have:=(List.getElem?_eq_some_iff.mp hi).1; simpa using this
   obtain rfl:y=V.str ns[i]:=by
    have : (ns.map V.str)[i]? = some (V.str ns[i]):=by simp [hil]
    rw [this] at hi; exact(Option.some.inj hi).symm
   have lenT:ts.length+fs.length=i:=by
    have:=hperm.length_eq
    simp only [List.length_append,List.length_map,List.length_take] at this
    omega
   have tvl:tv.length=ts.length:=by rw [rT.length,List.length_map]
   have fvl:fv.length=fs.length:=by rw [rF.length,List.length_map]
   have n8:ns.length≤8:=by omega
   refine⟨by show 4≤sizeLine; decide,fun L hL=>?_⟩
   have V1:=(av.refl W.pot).new hL (.lst [.int 0,.int 1,.int 1,.int 2])
   refine⟨_,rfl,p,_,rfl,V1.pot,by decide,by decide,fun r5 H10 e0 e1 hp10 s10=>?_⟩
   have V2:=V1.mk1 hp10 s10
   have hL10:H10 L=some (.lst [.int 0,.int 1,.int 1,.int 2]):=s10 L _ (Ne.symm ((av.refl W.pot).ne hL)) aa
   obtain⟨c,hc,hc0,hc2⟩:∃ c:Int,atI [V.int 0,V.int 1,V.int 1,V.int 2] r5=some (V.int c)∧0≤c∧c≤2:=by
    have h4:r5=0∨r5=1∨r5=2∨r5=3:=by omega
    rcases h4 with rfl | rfl | rfl | rfl
    ·exact⟨0,rfl,by decide,by decide⟩
    ·exact⟨1,rfl,by decide,by decide⟩
    ·exact⟨1,rfl,by decide,by decide⟩
    ·exact⟨2,rfl,by decide,by decide⟩
   refine⟨L,_,r5,_,rfl,rfl,SqL.of hL10,hc,c,rfl,by omega,by omega,?_⟩
   intro cl C ex sc Hc
   refine aN c.toNat (fun j ys H11=>∃ us:List Str,ys=us.map V.str∧(∀ u∈us,u∈ks)∧av p H2 H11) (fun _ _=>True)
    ⟨[],rfl,(fun _ h=>nomatch h),V2⟩ (Nat.le_trans (show c.toNat≤100 by omega) (show 100≤sizeLine by decide)) (fun i ys H1 hi _ _=>⟨hi,fun x H' y=>⟨y.1,trivial⟩⟩) (fun _ _ _ _=>Nat.le_refl _) ?_ ?_
   ·rintro j x ys H11 hj _ hy ⟨us,rfl,hus,V3⟩
    have hK11:H11 kA=some (.lst (ks.map V.str)):=V3.at npk hK
    refine⟨_,rfl,_,rfl,_,rfl,kA,_,rfl,.inl (SqL.of hK11),p,_,rfl,V3.pot,by rw [List.length_map]; omega,by rw [List.length_map]; omega,fun r6 H12 g0 g1 hp12 s12=>?_⟩
    rw [List.length_map] at g1
    have hr6:r6.toNat<ks.length:=by omega
    refine⟨kA,_,r6,V.str ks[r6.toNat],rfl,rfl,SqL.of (s12 kA _ npk hK11),bL g0 (by simp [hr6]),us++[ks[r6.toNat]],by simp,fun u hu=>?_,V3.mk1 hp12 s12⟩
    rcases List.mem_append.mp hu with hu | hu
    ·exact hus u hu
    ·rw [List.mem_singleton.mp hu]; exact List.getElem_mem hr6
   rintro ys H11 hy ⟨us,rfl,hus,V3⟩ D hD
   have hul:us.length≤2:=by
    have : us.length=c.toNat:=by simpa using hy
    omega
   have V4:=V3.new hD (.lst (us.map V.str))
   have W4:av p H (upd H11 D (.lst (us.map V.str))):=⟨V4.pot,W.same.trans V4.same⟩
   refine⟨_,rfl,p,_,rfl,V4.pot,by decide,by decide,fun r7 H13 k0 k1 hp13 s13=>?_⟩
   refine⟨_,_,rfl,rfl,_,rfl,?_⟩
   have V5:=V4.mk1 hp13 s13
   have W5:av p H H13:=⟨hp13,W4.same.trans s13⟩
   have hT13:H13 tA=some (.lst tv):=V5.at (Ne.symm hpt) hT
   have hF13:H13 fA=some (.lst fv):=V5.at (Ne.symm hpf) hF
   have hK13:H13 kA=some (.lst (ks.map V.str)):=V5.at npk hK
   have hN13:H13 nA=some (.lst (ns.map V.str)):=V5.at npn hN
   have rT13:=keepR V5.same rT
   have rF13:=keepR V5.same rF
   have nDp:D≠p:=Ne.symm (V3.ne hD)
   have hD13:H13 D=some (.lst (us.map V.str)):=s13 D _ nDp aa
   have hDfree:H D=none:=(show av p H H11 from ⟨V3.pot,W.same.trans V3.same⟩).free hD
   have nDt:D≠tA:=by rintro rfl; rw [V3.at (Ne.symm hpt) hT] at hD; cases hD
   have nDf:D≠fA:=by rintro rfl; rw [V3.at (Ne.symm hpf) hF] at hD; cases hD
   have ptake:ns.take (i+1)=ns.take i++[ns[i]]:=by rw [List.take_succ]; simp [hil]
   refine yD (fun _=>?_) (fun _=>?_)
   ·
    refine⟨_,rfl,.inl ⟨rfl,_,SqL.of hT13⟩,_,rfl,_,rfl,by show 2≤sizeLine; decide,fun T hTn=>?_⟩
    have nTp:=W5.ne hTn
    have nTt:T≠tA:=by rintro rfl; rw [hT13] at hTn; cases hTn
    have nTf:T≠fA:=by rintro rfl; rw [hF13] at hTn; cases hTn
    have W6:=W5.new hTn (.tup [.str ns[i],.ref D])
    refine⟨tA,tv,_,rfl,rfl,by rw [ad (Ne.symm nTt)]; exact hT13,Nat.lt_of_lt_of_le (show tv.length<100 by omega) (by decide),?_⟩
    have W7:=W6.put hpt tfree (.lst (tv++[.ref T]))
    have st:∀ a o,(H a=none∧a≠tA∧a≠fA)→H13 a=some o→(upd (upd H13 T (.tup [.str ns[i],.ref D])) tA (.lst (tv++[.ref T]))) a=some o:=fun a o z e=>by rw [ad z.2.1,ad (ae e hTn)]; exact e
    refine⟨ts++[⟨ns[i],us⟩],fs,tv++[.ref T],fv,_,_,rfl,aa,?_,?_,?_,?_,?_,okF,?_,?_,W7⟩
    ·rw [List.map_append]
     refine(rT13.mono (fun _ z=>z) st).snoc (.tup ⟨W5.free hTn,nTt,nTf⟩ (by rw [ad nTt]; exact aa) (.cons (.str _) (.cons (.lst ⟨hDfree,nDt,nDf⟩ (st D _ ⟨hDfree,nDt,nDf⟩ hD13) (RdA.strs us)) .nil)))
    ·rw [ad (Ne.symm ntf),ad (Ne.symm nTf)]; exact hF13
    ·exact rF13.mono (fun _ z=>z) st
    ·rw [List.map_append,List.map_cons,List.map_nil,ptake,List.append_assoc]
     refine(List.Perm.append_left _ List.perm_append_comm).trans ?_
     rw [← List.append_assoc]
     exact List.Perm.append_right _ hperm
    ·intro t ht
     rcases List.mem_append.mp ht with ht | ht
     ·exact okT t ht
     ·rw [List.mem_singleton.mp ht]; exact⟨hnsg _ (List.getElem_mem hil),hul,hus⟩
    ·rw [ad nkt,ad (ae hK13 hTn)]; exact hK13
    ·rw [ad nnt,ad (ae hN13 hTn)]; exact hN13
   ·
    refine⟨_,rfl,.inl ⟨rfl,_,SqL.of hF13⟩,_,rfl,_,rfl,_,rfl,_,rfl,_,rfl,kA,_,rfl,.inl (SqL.of hK13),p,_,rfl,hp13,by rw [List.length_map]; omega,by rw [List.length_map]; omega,fun r8 H14 m0 m1 hp14 s14=>?_⟩
    rw [List.length_map] at m1
    have hr8:r8.toNat<ks.length:=by omega
    have hK14:=s14 kA _ npk hK13
    have hT14:=s14 tA _ (Ne.symm hpt) hT13
    have hF14:=s14 fA _ (Ne.symm hpf) hF13
    have hN14:=s14 nA _ npn hN13
    have rT14:=keepR s14 rT13
    have rF14:=keepR s14 rF13
    have hD14:=s14 D _ nDp hD13
    have W6:=W5.mk1 hp14 s14
    refine⟨kA,_,r8,V.str ks[r8.toNat],rfl,rfl,SqL.of hK14,bL m0 (by simp [hr8]),by show 3≤sizeLine; decide,fun T hTn=>?_⟩
    have nTt:T≠tA:=by rintro rfl; rw [hT14] at hTn; cases hTn
    have nTf:T≠fA:=by rintro rfl; rw [hF14] at hTn; cases hTn
    have W7:=W6.new hTn (.tup [.str ns[i],.ref D,.str ks[r8.toNat]])
    refine⟨fA,fv,_,rfl,rfl,by rw [ad (Ne.symm nTf)]; exact hF14,Nat.lt_of_lt_of_le (show fv.length<100 by omega) (by decide),?_⟩
    have W8:=W7.put hpf ffree (.lst (fv++[.ref T]))
    have st:∀ a o,(H a=none∧a≠tA∧a≠fA)→H14 a=some o→(upd (upd H14 T (.tup [.str ns[i],.ref D,.str ks[r8.toNat]])) fA (.lst (fv++[.ref T]))) a=some o:=fun a o z e=>by rw [ad z.2.2,ad (ae e hTn)]; exact e
    refine⟨ts,fs++[⟨ns[i],us,ks[r8.toNat]⟩],tv,fv++[.ref T],_,_,rfl,?_,?_,aa,?_,?_,okT,?_,?_,?_,W8⟩
    ·rw [ad ntf,ad (Ne.symm nTt)]; exact hT14
    ·exact rT14.mono (fun _ z=>z) st
    ·rw [List.map_append]
     refine(rF14.mono (fun _ z=>z) st).snoc (.tup ⟨W6.free hTn,nTt,nTf⟩ (by rw [ad nTf]; exact aa) (.cons (.str _) (.cons (.lst ⟨hDfree,nDt,nDf⟩ (st D _ ⟨hDfree,nDt,nDf⟩ hD14) (RdA.strs us)) (.cons (.str _) .nil))))
    ·rw [List.map_append,List.map_cons,List.map_nil,ptake,← List.append_assoc]
     exact List.Perm.append_right _ hperm
    ·intro t ht
     rcases List.mem_append.mp ht with ht | ht
     ·exact okF t ht
     ·rw [List.mem_singleton.mp ht]; exact⟨hnsg _ (List.getElem_mem hil),hul,hus,List.getElem_mem hr8⟩
    ·rw [ad nkf,ad (ae hK14 hTn)]; exact hK14
    ·rw [ad nnf,ad (ae hN14 hTn)]; exact hN14
  ·rintro σ H2 ⟨ts,fs,tv,fv,v8,v9,rfl,hT,rT,hF,rF,hperm,okT,okF,hK,hN,W⟩
   rw [List.length_map,List.take_length] at hperm
   have lenT:ts.length+fs.length=ns.length:=by
    have:=hperm.length_eq
    simpa using this
   refine⟨_,rfl,_,rfl,_,rfl,by show 3≤sizeLine; decide,fun B hB=>?_⟩
   have hs:=ac hB (.tup [.ref kA,.ref tA,.ref fA])
   refine q _ _ ks ts fs (.tup (W.free hB) aa (.cons (.lst kfree (hs _ _ hK) (RdA.strs ks)) (.cons (.lst tfree (hs _ _ hT) (rT.mono (fun _ z=>z.1) fun a o _ e=>hs a o e)) (.cons (.lst ffree (hs _ _ hF) (rF.mono (fun _ z=>z.1) fun a o _ e=>hs a o e)) .nil))))
    ⟨hknd,by omega,by omega,hknm,(List.Perm.nodup_iff hperm).mpr hnnd,by omega,okT,okF⟩ (by omega) (by omega) (W.new hB _)
end
structure kR where
 nm:Str
 ps:List Str
 rest:List Str
def rG(t:ar):kR:=⟨t.nm,t.ps,[]⟩
def uD(t:aq):kR:=⟨t.nm,t.ps,[t.kd]⟩
def dG(t:ar):PyData:=.tuple [.str t.nm,.tuple (cH t.ps)]
def dO(t:aq):PyData:=.tuple [.str t.nm,.tuple (cH t.ps),.str t.kd]
structure wU(H:Hp)(q:Addr×Addr)(r:kR):Prop where
 row:LT H q.1 (.str r.nm::.ref q.2::r.rest.map V.str)
 plc:LT H q.2 (r.ps.map V.str)
inductive Sgs(H:Hp):List (Addr×Addr)→List kR→Prop where
 | nil:Sgs H [] []
 | cons {q:Addr×Addr} {r:kR} {ab:List (Addr×Addr)} {rs:List kR}:wU H q r→Sgs H ab rs→Sgs H (q::ab) (r::rs)
theorem Sgs.length{H:Hp}:∀ {ab:List (Addr×Addr)} {rs:List kR},Sgs H ab rs→ab.length=rs.length
 | _,_,.nil=>rfl
 | _,_,.cons _ t=>by rw [List.length_cons,List.length_cons,Sgs.length t]
theorem Sgs.get{H:Hp}:∀ {ab:List (Addr×Addr)} {rs:List kR} {i:Nat} {q:Addr×Addr},Sgs H ab rs→ab[i]? = some q→∃ r,rs[i]? = some r∧wU H q r
 | _,_,_,_,.nil,h=>by simp at h
 | _,_,0,_,.cons a t,h=>by simp at h; subst h; exact⟨_,rfl,a⟩
 | _,_,i+1,_,.cons a t,h=>by simpa using Sgs.get (i:=i) t (by simpa using h)
section
abbrev gz:Stmt:=top 8
theorem zbi:ak ["thing"] ["thing"] (af gz):=by walk_at "F"
inductive spIsListI(vs:List V)(H:Hp)(Q:VK):Prop where
 | mk:∀ (a:Addr) (xs:List V),vs=[.ref a]→LT H a xs→(∀ H',Same H H'→Q (.bl true) H')→spIsListI vs H Q
def ck:Sp:=fun vs H Q _=>spIsListI vs H Q
theorem nM(F:am K mg "is_list" gz ["thing"])(Z:Bl mg):Def P w K mg base "is_list" 1 ["thing"] ck:=by
 have SC:=zbi
 refine F.mk' (k:=0) zbi (fun vs H Q E h=>?_) (fun f cdv A outer s H vs Q E hr h=>?_)
 ·obtain⟨a,xs,rfl,_⟩:=h
  rfl
 ·obtain⟨a,xs,rfl,hL,q⟩:=h
  refine'⟨_,?derivation,?_⟩
  case derivation=>(have:=aj 4 16 11 43; walk_at "S1")
  refine⟨_,rfl,by show 2≤sizeLine; decide,fun t ht=>?_⟩
  have st:=ac ht (.tup [.ty "list",.ty "tuple"])
  obtain⟨ty,hty,hk⟩:=(hL.same st).isi2 (K:=K)
  exact⟨_,t,ty,true,rfl,aa,hty,hk,q _ st⟩
abbrev gw:Stmt:=top 9
theorem zbj:ak ["thing"] ["thing"] (af gw):=by walk_at "F"
inductive spIsNameI(vs:List V)(H:Hp)(Q:VK):Prop where
 | mk:∀ z:Str,vs=[.str z]→aK z→(∀ H',Same H H'→Q (.bl true) H')→spIsNameI vs H Q
def dv:Sp:=fun vs H Q _=>spIsNameI vs H Q
theorem nJ(F:am K mg "is_name" gw ["thing"])(Z:Bl mg)(G:Gs K mg):Def P w K mg base "is_name" 1 ["thing"] dv:=by
 have SC:=zbj
 obtain⟨_,g_LETTERS,r_LETTERS⟩:=G.letters
 obtain⟨_,g_LONGEST_NAME,r_LONGEST_NAME⟩:=G.longest
 refine F.mk' (k:=0) zbj (fun vs H Q E h=>?_) (fun f cdv A outer s H vs Q E hr h=>?_)
 ·obtain⟨z,rfl,_⟩:=h
  rfl
 ·obtain⟨z,rfl,⟨h1,h2,h3⟩,q⟩:=h
  have hz:=bJ z
  have hcs:z.cps.size=z.cps.toList.length:=by simp
  refine'⟨_,?derivation,?_⟩
  case derivation=>(have:=aj 5 18 11 33; have:=aj 6 20 16 31; have:=aj 7 18 46 56; have:=aT 20 15 50 1 ["sign","thing"]; have:=aj 8 20 44 49; have:=aj 9 20 16 31; walk_at "S2")
  refine⟨_,rfl,_,_,_,rfl,.str _,bX K,true,rfl,bI ?_⟩
  refine⟨_,rfl,_,rfl,Nat.le_trans (show z.length≤12 by omega) (by decide),_,_,rfl,rfl,_,rfl,ifT (decide_eq_true (by omega)) ?_⟩
  refine⟨_,_,rfl,rfl,_,rfl,ifF (by simp; omega) ?_⟩
  refine⟨_,rfl,z,rfl,?_⟩
  intro cl C ex s0 H0
  refine aN z.cps.size (fun i ys H1=>ys=(List.replicate i true).map V.bl∧H1=H) (fun i x=>∃ c,z.cps[i]? = some c∧x=.str ⟨#[c]⟩) ⟨rfl,rfl⟩ (Nat.le_trans (show z.cps.size≤12 by omega) (by decide)) (fun i ys H1 hi _ _=>yJ hi) (fun ys H1 _ _=>rN) ?_ ?_
  ·rintro i x ys H1 hi ⟨c,hc,rfl⟩ hy ⟨rfl,rfl⟩
   have hm:c∈z.cps.toList:=by
    have : z.cps.toList[i]? = some c:=by simpa using hc
    exact List.mem_of_getElem? this
   obtain⟨c0,c1⟩:=h3 c hm
   refine⟨_,rfl,_,_,rfl,rfl,?_,rfl⟩
   rw [yF c0 c1,List.replicate_succ',List.map_append]
   rfl
  ·rintro ys H1 hy ⟨rfl,rfl⟩ D hD
   refine⟨D,List.replicate z.cps.size true,rfl,SqL.of aa,?_⟩
   have e:(List.replicate z.cps.size true).all id=true:=by simp
   rw [e]
   exact q _ (ac hD _)
abbrev df:Stmt:=top 38
theorem zbk:ak ["names"] ["names"] (af df):=by walk_at "F"
inductive spApartI(vs:List V)(H:Hp)(Q:VK):Prop where
 | mk:∀ (a:Addr) (ws:List Str),vs=[.ref a]→LT H a (ws.map V.str)→ws.Nodup→ws.length≤1000→(∀ H',Same H H'→Q .non H')→spApartI vs H Q
def ki:Sp:=fun vs H Q _=>spApartI vs H Q
theorem uc(F:am K mg "check_apart" df ["names"])(Z:Bl mg):Def P w K mg base "check_apart" 1 ["names"] ki:=by
 have SC:=zbk
 refine F.mk' (k:=0) zbk (fun vs H Q E h=>?_) (fun f cdv A outer s H vs Q E hr h=>?_)
 ·obtain⟨a,ws,rfl,_⟩:=h
  rfl
 ·obtain⟨a,ws,rfl,hL,hnd,hl,q⟩:=h
  refine'⟨_,?derivation,?_⟩
  case derivation=>(have:=aj 10 177 7 22; walk_at "S1")
  refine⟨_,rfl,a,ws,rfl,hL.sq,Nat.lt_of_le_of_lt (show ws.length+1≤1001 by omega) (by decide),fun d hd=>?_⟩
  have st:=ac hd (yU P w d ws)
  refine⟨d,ws,rfl,aa,?_⟩
  refine⟨_,rfl,a,_,rfl,(hL.same st).sq,rfl,_,rfl,?_⟩
  have e:(ws.foldl b8 []).length=ws.length:=by rw [g9 ws [] hnd (fun _ _ z=>nomatch z)]; simp
  refine ifF ?_ (q _ st)
  rw [e,List.length_map]
  simp
abbrev cy:Stmt:=top 32
theorem zbl:ak ["kinds","kind"] ["kinds"] (af cy):=by walk_at "F"
structure wW(ks:List Str):Prop where
 kn:ks.Nodup
 k1:1≤ks.length
 k4:ks.length≤4
 kn2:∀ k∈ks,aK k
inductive spKindsI(vs:List V)(H:Hp)(Q:VK):Prop where
 | mk:∀ (a:Addr) (ks:List Str),vs=[.ref a]→LT H a (ks.map V.str)→wW ks→(∀ t H',H' t=some (.tup (ks.map V.str))→Same H H'→Q (.ref t) H')→spKindsI vs H Q
def oY:Sp:=fun vs H Q _=>spKindsI vs H Q
theorem tZ(F:am K mg "checked_kinds" cy ["kinds"])(Z:Bl mg)(G:Gs K mg)(D_is_list:Def P w K mg base "is_list" 1 ["thing"] ck)(D_is_name:Def P w K mg base "is_name" 1 ["thing"] dv)(D_check_apart:Def P w K mg base "check_apart" 1 ["names"] ki):
  Def P w K mg base "checked_kinds" 2 ["kinds"] oY:=by
 have SC:=zbl
 obtain⟨_,g_MOST_KINDS,r_MOST_KINDS⟩:=G.mkinds
 refine F.mk' (k:=1) zbl (fun vs H Q E h=>?_) (fun f cdv A outer s H vs Q E hr h=>?_)
 ·obtain⟨a,ks,rfl,_⟩:=h
  rfl
 ·obtain⟨a,ks,rfl,hL,ok,q⟩:=h
  have k1:=ok.k1
  have k4:=ok.k4
  refine'⟨_,?derivation,?_⟩
  case derivation=>(have:=aj 11 149 16 21; walk_at "S2")
  refine⟨_,rfl,a,_,rfl,hL,fun H1 s1=>⟨true,rfl,bI ?_⟩⟩
  refine⟨_,rfl,a,_,rfl,(hL.same s1).sq,_,_,rfl,rfl,_,rfl,ifT (decide_eq_true (by rw [List.length_map]; omega)) ?_⟩
  refine⟨_,_,rfl,rfl,_,rfl,ifF (by rw [List.length_map]; simp; omega) ?_⟩
  refine(hL.same s1).over rfl fun J O=>O.loop (fun j σ H2=>∃ v,σ=[some (.ref a),v]∧Same H1 H2) ⟨_,rfl,Same.refl _⟩ (fun j σ H2 _ ⟨_,_,z⟩ o e=>z a o e) ?_ ?_
  ·rintro i x σ H2 hi ⟨v,rfl,s2⟩
   rw [List.getElem?_map] at hi
   obtain⟨k,hk,rfl⟩:=Option.map_eq_some_iff.mp hi
   refine⟨_,rfl,k,rfl,ok.kn2 k (List.mem_of_getElem? hk),fun H3 s3=>⟨true,rfl,bI ?_⟩⟩
   exact⟨_,rfl,s2.trans s3⟩
  ·rintro σ H2 ⟨v,rfl,s2⟩
   refine⟨_,rfl,a,ks,rfl,(hL.same s1).same s2,ok.kn,by omega,fun H3 s3=>?_⟩
   have s03:=(s1.trans s2).trans s3
   refine⟨_,rfl,a,ks.map V.str,rfl,?_⟩
   rcases hL.same s03 with e | e
   ·exact .inl ⟨SqL.of e,fun l hl=>q l _ aa (s03.trans (ac hl _))⟩
   ·exact .inr ⟨SqT.of e,q a _ e s03⟩
abbrev cN:Stmt:=top 37
theorem zbm:ak ["kinds","kind"] ["kinds","kind"] (af cN):=by walk_at "F"
inductive spKindI(vs:List V)(H:Hp)(Q:VK):Prop where
 | mk:∀ (a:Addr) (ks:List Str) (k:Str),vs=[.ref a,.str k]→LT H a (ks.map V.str)→aK k→k∈ks→(∀ H',Same H H'→Q (.str k) H')→spKindI vs H Q
def nh:Sp:=fun vs H Q _=>spKindI vs H Q
theorem vV(F:am K mg "checked_kind" cN ["kinds","kind"])(Z:Bl mg)(D_is_name:Def P w K mg base "is_name" 1 ["thing"] dv):Def P w K mg base "checked_kind" 2 ["kinds","kind"] nh:=by
 have SC:=zbm
 refine F.mk' (k:=1) zbm (fun vs H Q E h=>?_) (fun f cdv A outer s H vs Q E hr h=>?_)
 ·obtain⟨a,ks,k,rfl,_⟩:=h
  rfl
 ·obtain⟨a,ks,k,rfl,hL,hn,hk,q⟩:=h
  refine'⟨_,?derivation,?_⟩
  case derivation=>(walk_at "S2")
  refine⟨_,rfl,k,rfl,hn,fun H1 s1=>⟨true,rfl,bI ?_⟩⟩
  refine⟨_,rfl,_,rfl,a,_,rfl,(hL.same s1).sq,rfl,cG ks,_,rfl,ifF ?_ ⟨_,rfl,q _ s1⟩⟩
  rw [cu,decide_eq_true hk]
  decide
abbrev cb:Stmt:=top 36
theorem zbn:ak ["kinds","places"] ["kinds","places"] (af cb):=by walk_at "F"
inductive spPlacesI(vs:List V)(H:Hp)(Q:VK):Prop where
 | mk:∀ (a b:Addr) (ks ps:List Str),vs=[.ref a,.ref b]→LT H a (ks.map V.str)→((∀ k∈ks,aK k))→LT H b (ps.map V.str)→ps.length≤2→((∀ k∈ps,k∈ks))→(∀ t H',H' t=some (.tup (ps.map V.str))→Same H H'→Q (.ref t) H')→spPlacesI vs H Q
def iD:Sp:=fun vs H Q _=>spPlacesI vs H Q
theorem qk(F:am K mg "checked_places" cb ["kinds","places"])(Z:Bl mg)(G:Gs K mg)(D_is_list:Def P w K mg base "is_list" 1 ["thing"] ck)(D_checked_kind:Def P w K mg base "checked_kind" 2 ["kinds","kind"] nh):Def P w K mg base "checked_places" 3 ["kinds","places"] iD:=by
 have SC:=zbn
 obtain⟨_,g_MOST_PLACES,r_MOST_PLACES⟩:=G.mplaces
 refine F.mk' (k:=2) zbn (fun vs H Q E h=>?_) (fun f cdv A outer s H vs Q E hr h=>?_)
 ·obtain⟨a,b,ks,ps,rfl,_⟩:=h
  rfl
 ·obtain⟨a,b,ks,ps,rfl,hA,hnm,hB,h2,hin,q⟩:=h
  refine'⟨_,?derivation,?_⟩
  case derivation=>(have:=aT 171 17 63 1 ["kind","kinds","places"]; have:=aj 11 171 56 62; walk_at "S2")
  refine⟨_,rfl,b,_,rfl,hB,fun H1 s1=>⟨true,rfl,bI ?_⟩⟩
  refine⟨_,rfl,b,_,rfl,(hB.same s1).sq,_,_,rfl,rfl,_,rfl,ifF (by rw [List.length_map]; simp; omega) ?_⟩
  refine(hB.same s1).over rfl fun J O=>?_
  intro cl C ex s0 H0
  refine O.comp (fun i ys H2=>ys=(ps.take i).map V.str∧Same H1 H2) ⟨rfl,Same.refl _⟩ (by rw [List.length_map]; exact Nat.le_trans h2 (by decide)) (fun i ys H2 _ ⟨_,z⟩ o e=>z b o e) ?_ ?_
  ·rintro i x ys H2 hi hy ⟨rfl,s2⟩
   rw [List.getElem?_map] at hi
   obtain⟨k,hk,rfl⟩:=Option.map_eq_some_iff.mp hi
   have hkp:=hin k (List.mem_of_getElem? hk)
   refine⟨_,rfl,_,rfl,a,ks,k,rfl,(hA.same s1).same s2,hnm k hkp,hkp,fun H3 s3=>⟨?_,s2.trans s3⟩⟩
   rw [List.take_succ,hk,List.map_append]; rfl
  ·rintro ys H2 hy ⟨rfl,s2⟩ D hD
   rw [List.length_map,List.take_length]
   refine⟨D,_,rfl,.inl ⟨SqL.of aa,fun t ht=>?_⟩⟩
   exact q t _ aa ((s1.trans s2).trans ((ac hD _).trans (ac ht _)))
abbrev bB:Stmt:=top 35
theorem zbo:ak ["name"] ["name"] (af bB):=by walk_at "F"
inductive spSignNameI(vs:List V)(H:Hp)(Q:VK):Prop where
 | mk:∀ (k:Str),vs=[.str k]→eX k→(∀ H',Same H H'→Q (.str k) H')→spSignNameI vs H Q
def fg:Sp:=fun vs H Q _=>spSignNameI vs H Q
theorem kF(F:am K mg "checked_sign_name" bB ["name"])(Z:Bl mg)(G:Gs K mg)(D_is_name:Def P w K mg base "is_name" 1 ["thing"] dv):Def P w K mg base "checked_sign_name" 2 ["name"] fg:=by
 have SC:=zbo
 obtain⟨wa,g_WORDS_OF_SAYINGS,hW⟩:=G.words
 have r_WORDS_OF_SAYINGS:az (.ref wa) (.ref wa):=rfl
 refine F.mk' (k:=1) zbo (fun vs H Q E h=>?_) (fun f cdv A outer s H vs Q E hr h=>?_)
 ·obtain⟨k,rfl,_⟩:=h
  rfl
 ·obtain⟨k,rfl,hs,q⟩:=h
  refine'⟨_,?derivation,?_⟩
  case derivation=>(walk_at "S2")
  refine⟨_,rfl,k,rfl,hs.1,fun H1 s1=>⟨true,rfl,bI ?_⟩⟩
  refine⟨_,rfl,wa,_,rfl,.inr (hW _),rfl,cG sayWords,_,rfl,ifF ?_ ⟨_,rfl,q _ s1⟩⟩
  rw [cu,decide_eq_false hs.2]
  decide
abbrev de:Stmt:=top 33
theorem zbp:ak ["kinds","tie","name","places"] ["kinds","tie"] (af de):=by walk_at "F"
def z9(ks:List Str)(nm:Str)(ps:List Str):Prop:=eX nm∧ps.length≤2∧∀ k∈ps,k∈ks
inductive spTieI(vs:List V)(H:Hp)(Q:VK):Prop where
 | mk:∀ (a b c:Addr) (ks ps:List Str) (nm:Str),vs=[.ref a,.ref b]→LT H a (ks.map V.str)→((∀ k∈ks,aK k))→LT H b [.str nm,.ref c]→LT H c (ps.map V.str)→z9 ks nm ps→(∀ t u H',H' t=some (.tup [.str nm,.ref u])→H' u=some (.tup (ps.map V.str))→Same H H'→Q (.ref t) H')→spTieI vs H Q
def xf:Sp:=fun vs H Q _=>spTieI vs H Q
theorem yp(F:am K mg "checked_tie" de ["kinds","tie"])(Z:Bl mg)(D_is_list:Def P w K mg base "is_list" 1 ["thing"] ck)(D_checked_sign_name:Def P w K mg base "checked_sign_name" 2 ["name"] fg)(D_checked_places:Def P w K mg base "checked_places" 3 ["kinds","places"] iD):
  Def P w K mg base "checked_tie" 4 ["kinds","tie"] xf:=by
 have SC:=zbp
 refine F.mk' (k:=3) zbp (fun vs H Q E h=>?_) (fun f cdv A outer s H vs Q E hr h=>?_)
 ·obtain⟨a,b,c,ks,ps,nm,rfl,_⟩:=h
  rfl
 ·obtain⟨a,b,c,ks,ps,nm,rfl,hA,hnm,hB,hC,⟨hs,h2,hin⟩,q⟩:=h
  refine'⟨_,?derivation,?_⟩
  case derivation=>(have:=aj 12 157 4 16; walk_at "S2")
  refine⟨_,rfl,b,_,rfl,hB,fun H1 s1=>⟨true,rfl,bI ?_⟩⟩
  refine⟨_,rfl,b,_,rfl,(hB.same s1).sq,rfl,_,rfl,ifF (by simp) ?_⟩
  refine⟨_,rfl,b,_,rfl,(hB.same s1).sq,rfl,_,_,rfl,_,_,rfl,rfl,?_⟩
  refine⟨_,rfl,nm,rfl,hs,fun H2 s2=>?_⟩
  have s02:=s1.trans s2
  refine⟨_,rfl,_,rfl,a,c,ks,ps,rfl,hA.same s02,hnm,hC.same s02,h2,hin,fun u H3 hu s3=>?_⟩
  refine⟨by show 2≤sizeLine; decide,fun t ht=>?_⟩
  exact q t u _ aa (ac ht _ _ _ hu) ((s02.trans s3).trans (ac ht _))
abbrev bM:Stmt:=top 34
theorem zbq:ak ["kinds","function","name","places","kind"] ["kinds","function"] (af bM):=by walk_at "F"
inductive spFuncI(vs:List V)(H:Hp)(Q:VK):Prop where
 | mk:∀ (a b c:Addr) (ks ps:List Str) (nm kd:Str),vs=[.ref a,.ref b]→LT H a (ks.map V.str)→((∀ k∈ks,aK k))→LT H b [.str nm,.ref c,.str kd]→LT H c (ps.map V.str)→z9 ks nm ps→kd∈ks→(∀ t u H',H' t=some (.tup [.str nm,.ref u,.str kd])→H' u=some (.tup (ps.map V.str))→Same H H'→Q (.ref t) H')→spFuncI vs H Q
def rY:Sp:=fun vs H Q _=>spFuncI vs H Q
theorem vY(F:am K mg "checked_function" bM ["kinds","function"])(Z:Bl mg)(D_is_list:Def P w K mg base "is_list" 1 ["thing"] ck)(D_checked_sign_name:Def P w K mg base "checked_sign_name" 2 ["name"] fg)(D_checked_places:Def P w K mg base "checked_places" 3 ["kinds","places"] iD)
  (D_checked_kind:Def P w K mg base "checked_kind" 2 ["kinds","kind"] nh):Def P w K mg base "checked_function" 4 ["kinds","function"] rY:=by
 have SC:=zbq
 refine F.mk' (k:=3) zbq (fun vs H Q E h=>?_) (fun f cdv A outer s H vs Q E hr h=>?_)
 ·obtain⟨a,b,c,ks,ps,nm,kd,rfl,_⟩:=h
  rfl
 ·obtain⟨a,b,c,ks,ps,nm,kd,rfl,hA,hnm,hB,hC,⟨hs,h2,hin⟩,hkd,q⟩:=h
  refine'⟨_,?derivation,?_⟩
  case derivation=>(have:=aj 12 162 4 22; walk_at "S2")
  refine⟨_,rfl,b,_,rfl,hB,fun H1 s1=>⟨true,rfl,bI ?_⟩⟩
  refine⟨_,rfl,b,_,rfl,(hB.same s1).sq,rfl,_,rfl,ifF (by simp) ?_⟩
  refine⟨_,rfl,b,_,rfl,(hB.same s1).sq,rfl,_,_,rfl,_,_,rfl,_,_,rfl,rfl,?_⟩
  refine⟨_,rfl,nm,rfl,hs,fun H2 s2=>?_⟩
  have s02:=s1.trans s2
  refine⟨_,rfl,_,rfl,a,c,ks,ps,rfl,hA.same s02,hnm,hC.same s02,h2,hin,fun u H3 hu s3=>?_⟩
  have s03:=s02.trans s3
  refine⟨_,rfl,_,rfl,a,ks,kd,rfl,hA.same s03,hnm kd hkd,hkd,fun H4 s4=>?_⟩
  refine⟨by show 3≤sizeLine; decide,fun t ht=>?_⟩
  exact q t u _ aa (ac ht _ _ _ (s4 _ _ hu)) ((s03.trans s4).trans (ac ht _))
end
def aH(C:Addr)(H:Hp)(x:Addr)(ks:List Str)(ts:List ar)(fs:List aq):Prop:=
 ∃ dx kt tt ft tv fv,H x=some (.ins C dx (flF kt tt ft))∧H kt=some (.tup (ks.map V.str))∧H tt=some (.tup tv)∧RdA Any H tv (ts.map dG)∧H ft=some (.tup fv)∧RdA Any H fv (fs.map dO)
theorem iz:∀ ws:List Str,bp (cH ws)=true
 | []=>rfl
 | x::r=>by
  show (cC (PyData.str x)&&bp (cH r))=true
  rw [iz r]; rfl
theorem rE(t:ar):cC (dG t)=true:=by
 show (true&&(bp (cH t.ps)&&true))=true
 rw [iz]; rfl
theorem uC(t:aq):cC (dO t)=true:=by
 show (true&&(bp (cH t.ps)&&(true&&true)))=true
 rw [iz]; rfl
theorem fZ:∀ ts:List ar,bp (ts.map dG)=true
 | []=>rfl
 | x::r=>by
  show (cC (dG x)&&bp (r.map dG))=true
  rw [fZ r,rE]; rfl
theorem iY:∀ ts:List aq,bp (ts.map dO)=true
 | []=>rfl
 | x::r=>by
  show (cC (dO x)&&bp (r.map dO))=true
  rw [iY r,uC]; rfl
theorem aH.keep{C:Addr}{H H':Hp}{x:Addr}{ks:List Str}{ts:List ar}{fs:List aq}(h:aH C H x ks ts fs)(hx:∀ o,H x=some o→H' x=some o)(ht:cP H H'):aH C H' x ks ts fs:=by
 obtain⟨dx,kt,tt,ft,tv,fv,h1,h2,h3,h4,h5,h6⟩:=h
 exact⟨dx,kt,tt,ft,tv,fv,hx _ h1,ht _ _ h2,ht _ _ h3,h4.monoT (fun _ z=>z) ht (fZ ts),ht _ _ h5,h6.monoT (fun _ z=>z) ht (iY fs)⟩
def nmD:PyData→Str
 | .tuple (.str n::_)=>n
 | _=>Str.empty
theorem wg(ts:List ar):(ts.map dG).map nmD=ts.map (·.nm):=by rw [List.map_map]; rfl
theorem wj(ts:List aq):(ts.map dO).map nmD=ts.map (·.nm):=by rw [List.map_map]; rfl
theorem vc{ts:List ar}{fs:List aq}{d:PyData}(h:d∈ts.map dG++fs.map dO):∃ r,d=.tuple (.str (nmD d)::r):=by
 rcases List.mem_append.mp h with h | h
 ·obtain⟨t,_,rfl⟩:=List.mem_map.mp h
  exact⟨_,rfl⟩
 ·obtain⟨t,_,rfl⟩:=List.mem_map.mp h
  exact⟨_,rfl⟩
section
abbrev km:Stmt:=cF (top 31) 1
theorem zbr:ak ["self"] ["self"] (af km):=by walk_at "F"
inductive spTellKI(C:Addr)(vs:List V)(H:Hp)(Q:VK):Prop where
 | mk:∀ (x:Addr) (ks:List Str) (ts:List ar) (fs:List aq),vs=[.ref x]→aH C H x ks ts fs→(∀ l,H l=none→Q (.ref l) (upd H l (.lst (ks.map V.str))))→spTellKI C vs H Q
def ij(C:Addr):Sp:=fun vs H Q _=>spTellKI C vs H Q
theorem tS{f C:Addr}{fd:FuncData}(F:Fun K "kinds" "Signs.kinds" km f fd)(Z:Bl mg)(T:ClS K C):aZ P w K mg base CX0 1 f fd ["self"] (ij C):=by
 have SC:=zbr
 refine F.ok zbr (fun vs H Q E h=>?_) (fun cdv A outer s H vs Q E hr h=>?_)
 ·obtain⟨x,ks,ts,fs,rfl,_⟩:=h
  rfl
 ·obtain⟨x,ks,ts,fs,rfl,⟨dx,kt,tt,ft,tv,fv,h1,h2,h3,h4,h5,h6⟩,q⟩:=h
  refine'⟨_,?derivation,?_⟩
  case derivation=>(walk_at "S1")
  exact⟨_,rfl,x,C,dx,_,_,rfl,h1,T.cl,T.nK,qP _ _ _,kt,_,rfl,.inr (SqT.of h2),q⟩
abbrev nv:Stmt:=cF (top 31) 2
theorem zbs:ak ["self"] ["self"] (af nv):=by walk_at "F"
inductive spTellTI(C:Addr)(vs:List V)(H:Hp)(Q:VK):Prop where
 | mk:∀ (x:Addr) (ks:List Str) (ts:List ar) (fs:List aq),vs=[.ref x]→aH C H x ks ts fs→(∀ l tv,H l=none→RdA Any H tv (ts.map dG)→Q (.ref l) (upd H l (.lst tv)))→spTellTI C vs H Q
def ii(C:Addr):Sp:=fun vs H Q _=>spTellTI C vs H Q
theorem tR{f C:Addr}{fd:FuncData}(F:Fun K "ties" "Signs.ties" nv f fd)(Z:Bl mg)(T:ClS K C):aZ P w K mg base CX0 1 f fd ["self"] (ii C):=by
 have SC:=zbs
 refine F.ok zbs (fun vs H Q E h=>?_) (fun cdv A outer s H vs Q E hr h=>?_)
 ·obtain⟨x,ks,ts,fs,rfl,_⟩:=h
  rfl
 ·obtain⟨x,ks,ts,fs,rfl,⟨dx,kt,tt,ft,tv,fv,h1,h2,h3,h4,h5,h6⟩,q⟩:=h
  refine'⟨_,?derivation,?_⟩
  case derivation=>(walk_at "S1")
  exact⟨_,rfl,x,C,dx,_,_,rfl,h1,T.cl,T.nT,mG _ _ _,tt,_,rfl,.inr (SqT.of h3),fun l hl=>q l tv hl h4⟩
abbrev ej:Stmt:=cF (top 31) 3
theorem zbt:ak ["self"] ["self"] (af ej):=by walk_at "F"
inductive spTellFI(C:Addr)(vs:List V)(H:Hp)(Q:VK):Prop where
 | mk:∀ (x:Addr) (ks:List Str) (ts:List ar) (fs:List aq),vs=[.ref x]→aH C H x ks ts fs→(∀ l fv,H l=none→RdA Any H fv (fs.map dO)→Q (.ref l) (upd H l (.lst fv)))→spTellFI C vs H Q
def ik(C:Addr):Sp:=fun vs H Q _=>spTellFI C vs H Q
theorem tT{f C:Addr}{fd:FuncData}(F:Fun K "functions" "Signs.functions" ej f fd)(Z:Bl mg)(T:ClS K C):aZ P w K mg base CX0 1 f fd ["self"] (ik C):=by
 have SC:=zbt
 refine F.ok zbt (fun vs H Q E h=>?_) (fun cdv A outer s H vs Q E hr h=>?_)
 ·obtain⟨x,ks,ts,fs,rfl,_⟩:=h
  rfl
 ·obtain⟨x,ks,ts,fs,rfl,⟨dx,kt,tt,ft,tv,fv,h1,h2,h3,h4,h5,h6⟩,q⟩:=h
  refine'⟨_,?derivation,?_⟩
  case derivation=>(walk_at "S1")
  exact⟨_,rfl,x,C,dx,_,_,rfl,h1,T.cl,T.nF,mH _ _ _,ft,_,rfl,.inr (SqT.of h5),fun l hl=>q l fv hl h6⟩
abbrev gA:Stmt:=cF (top 31) 0
theorem zbu:ak ["self","kinds","ties","functions"] ["self","kinds","ties","functions"] (af gA):=by walk_at "F"
inductive spInitI(C:Addr)(vs:List V)(H:Hp)(Q:VK):Prop where
 | mk:∀ (x dx a b c:Addr) (ab cd:List (Addr×Addr)) (ks:List Str) (ts:List ar) (fs:List aq),vs=[.ref x,.ref a,.ref b,.ref c]→H x=some (.ins C dx [])→LT H a (ks.map V.str)→(LT H b (ab.map fun q=>V.ref q.1))→Sgs H ab (ts.map rG)→(LT H c (cd.map fun q=>V.ref q.1))→Sgs H cd (fs.map uD)→au ks ts fs→(∀ H',aH C H' x ks ts fs→ax x H H'→Q .non H')→spInitI C vs H Q
def ni(C:Addr):Sp:=fun vs H Q _=>spInitI C vs H Q
theorem LT.neIns{H:Hp}{a x C dx:Addr}{xs:List V}{fl:List (Str×V)}(h:LT H a xs)(hx:H x=Option.some (.ins C dx fl)):a≠x:=by
 rintro rfl
 rcases h with h | h <;> (rw [h] at hx; cases hx)
theorem vW{f C:Addr}{fd:FuncData}(F:Fun K "__init__" "Signs.__init__" gA f fd)(Z:Bl mg)(G:Gs K mg)(T:ClS K C)(D_is_list:Def P w K mg base "is_list" 1 ["thing"] ck)(D_checked_kinds:Def P w K mg base "checked_kinds" 2 ["kinds"] oY)
  (D_checked_tie:Def P w K mg base "checked_tie" 4 ["kinds","tie"] xf) (D_checked_function:Def P w K mg base "checked_function" 4 ["kinds","function"] rY) (D_check_apart:Def P w K mg base "check_apart" 1 ["names"] ki) :
  aZ P w K mg base CX0 5 f fd ["self","kinds","ties","functions"] (ni C):=by
 have SC:=zbu
 obtain⟨_,g_MOST_SIGNS,r_MOST_SIGNS⟩:=G.msigns
 refine F.ok zbu (fun vs H Q E h=>?_) (fun cdv A outer s H vs Q E hr h=>?_)
 ·obtain⟨x,dx,a,b,c,ab,cd,ks,ts,fs,rfl,_⟩:=h
  rfl
 ·obtain⟨x,dx,a,b,c,ab,cd,ks,ts,fs,rfl,hx,hA,hB,sB,hC,sC,ok,q⟩:=h
  have nbx:b≠x:=hB.neIns hx
  have ncx:c≠x:=hC.neIns hx
  have abl:ab.length=ts.length:=by rw [sB.length,List.length_map]
  have cdl:cd.length=fs.length:=by rw [sC.length,List.length_map]
  have sl:=ok.sl
  have sgx:∀ {H':Hp} {q:Addr×Addr} {r:kR},ax x H H'→wU H q r→wU H' q r:=fun s g=>⟨g.row.mono fun o e=>s _ _ (g.row.neIns hx) e,g.plc.mono fun o e=>s _ _ (g.plc.neIns hx) e⟩
  refine'⟨_,?derivation,?_⟩
  case derivation=>(have:=aj 13 136 21 28; have:=aj 14 136 41 77; have:=aT 134 31 82 1 ["tie","self","kinds","ties","functions"]; have:=aT 135 36 107 1 ["function","self","kinds","ties","functions"]; have:=aT 136 20 78 1 ["sign","self","kinds","ties","functions"]; have:=aj 11 134 77 81; have:=aj 11 135 97 106; have:=aj 15 136 41 77; walk_at "S2")
  refine⟨_,rfl,a,ks,rfl,hA,⟨ok.kn,ok.k1,ok.k4,ok.kn2⟩,fun kt H1 hkt s1=>?_⟩
  refine⟨_,rfl,x,C,dx,_,rfl,s1 _ _ hx,T.cl,T.nK,by decide,?_⟩
  have nkx:kt≠x:=by rintro rfl; rw [s1 _ _ hx] at hkt; cases hkt
  generalize hG2:upd H1 x (.ins C dx (putF "kept_kinds" (.ref kt) []))=H2
  have x2:H2 x=some (.ins C dx (flK kt)):=by rw [← hG2]; exact aa
  have k2:H2 kt=some (.tup (ks.map V.str)):=by rw [← hG2,ad nkx]; exact hkt
  have S2:ax x H H2:=by rw [← hG2]; exact s1.x.trans (ax.upd x H1 _)
  refine⟨_,rfl,b,_,rfl,hB.mono fun o e=>S2 _ _ nbx e,fun H3 s3=>⟨true,rfl,bI ?_⟩⟩
  have S3:=S2.same s3
  refine⟨_,rfl,c,_,rfl,hC.mono fun o e=>S3 _ _ ncx e,fun H4 s4=>⟨true,rfl,bI ?_⟩⟩
  have S4:=S3.same s4
  refine⟨_,rfl,b,_,rfl,(hB.mono fun o e=>S4 _ _ nbx e).sq,_,rfl,c,_,rfl,(hC.mono fun o e=>S4 _ _ ncx e).sq,_,_,rfl,rfl,_,_,rfl,rfl,_,rfl,ifF (by rw [List.length_map,List.length_map]; simp; omega) ?_⟩
  have s24:Same H2 H4:=s3.trans s4
  refine(hB.mono fun o e=>S4 _ _ nbx e).over rfl fun J O=>?_
  intro cl C1 ex s0 H0
  refine O.comp (fun i ys H5=>RdA Any H5 ys ((ts.take i).map dG)∧Same H4 H5) ⟨.nil,Same.refl _⟩ (by rw [List.length_map]; exact Nat.le_trans (show ab.length≤8 by omega) (by decide)) (fun i ys H5 _ ⟨_,z⟩ o e=>z b o e) ?_ ?_
  ·rintro i y ys H5 hi hy ⟨r5,s5⟩
   rw [List.getElem?_map] at hi
   obtain⟨qq,hq,rfl⟩:=Option.map_eq_some_iff.mp hi
   obtain⟨r,hr',sg⟩:=sB.get hq
   rw [List.getElem?_map] at hr'
   obtain⟨t,ht,rfl⟩:=Option.map_eq_some_iff.mp hr'
   have s25:=s24.trans s5
   have sg5:=sgx (S4.same s5) sg
   refine⟨_,rfl,x,C,dx,_,_,rfl,s25 _ _ x2,T.cl,T.nK,jR _,_,rfl,kt,qq.1,qq.2,ks,t.ps,t.nm,rfl,.inr (s25 _ _ k2),ok.kn2,sg5.row,sg5.plc,ok.tn t (List.mem_of_getElem? ht),fun tt u H6 h6 h7 s6=>⟨?_,s5.trans s6⟩⟩
   rw [List.take_succ,ht]
   show RdA Any H6 (ys++[.ref tt]) (List.map dG (ts.take i++[t]))
   rw [List.map_append]
   exact(r5.same s6).snoc (.tup trivial h6 (.cons (.str _) (.cons (.tup trivial h7 (RdA.strs _)) .nil)))
  rintro tv H5 hy ⟨r5,s5⟩ D1 hD1
  rw [List.length_map,abl,List.take_length] at r5
  refine⟨D1,tv,rfl,.inl ⟨SqL.of aa,fun tt htt=>?_⟩⟩
  have s6:=(ac hD1 (.lst tv)).trans (ac htt (.tup tv))
  have s26:=(s24.trans s5).trans s6
  refine⟨_,rfl,x,C,dx,_,rfl,s26 _ _ x2,T.cl,T.nT,wE _,?_⟩
  have tt6:(upd (upd H5 D1 (.lst tv)) tt (.tup tv)) tt=some (.tup tv):=aa
  generalize (upd (upd H5 D1 (.lst tv)) tt (.tup tv))=G6 at s6 s26 tt6
  have ntx:tt≠x:=by rintro rfl; rw [s26 _ _ x2] at tt6; cases tt6
  generalize hG7:upd G6 x (.ins C dx (putF "kept_ties" (.ref tt) (flK kt)))=H7
  have x7:H7 x=some (.ins C dx (flT kt tt)):=by rw [← hG7]; exact aa
  have S67:ax x G6 H7:=by rw [← hG7]; exact ax.upd x G6 _
  have t7:H7 tt=some (.tup tv):=S67 _ _ ntx tt6
  have k7:H7 kt=some (.tup (ks.map V.str)):=S67 _ _ nkx (s26 _ _ k2)
  have S7:ax x H H7:=(S2.same s26).trans S67
  have T67:cP G6 H7:=fun p xs e=>S67 p _ (fun z=>by rw [z,s26 _ _ x2] at e; cases e) e
  have r7:RdA Any H7 tv (ts.map dG):=(r5.same s6).monoT (fun _ z=>z) T67 (fZ ts)
  refine(hC.mono fun o e=>S7 _ _ ncx e).over rfl fun J O=>?_
  intro cl C1 ex s0 H0
  refine O.comp (fun i ys H8=>RdA Any H8 ys ((fs.take i).map dO)∧Same H7 H8) ⟨.nil,Same.refl _⟩ (by rw [List.length_map]; exact Nat.le_trans (show cd.length≤8 by omega) (by decide)) (fun i ys H8 _ ⟨_,z⟩ o e=>z c o e) ?_ ?_
  ·rintro i y ys H8 hi hy ⟨r8,s8⟩
   rw [List.getElem?_map] at hi
   obtain⟨qq,hq,rfl⟩:=Option.map_eq_some_iff.mp hi
   obtain⟨r,hr',sg⟩:=sC.get hq
   rw [List.getElem?_map] at hr'
   obtain⟨t,ht,rfl⟩:=Option.map_eq_some_iff.mp hr'
   have sg8:=sgx (S7.same s8) sg
   obtain⟨o1,o2,o3,o4⟩:=ok.fn t (List.mem_of_getElem? ht)
   refine⟨_,rfl,x,C,dx,_,_,rfl,s8 _ _ x7,T.cl,T.nK,jQ _ _,_,rfl,kt,qq.1,qq.2,ks,t.ps,t.nm,t.kd,rfl,.inr (s8 _ _ k7),ok.kn2,sg8.row,sg8.plc,⟨o1,o2,o3⟩,o4,fun tt u H9 h6 h7 s9=>⟨?_,s8.trans s9⟩⟩
   rw [List.take_succ,ht]
   show RdA Any H9 (ys++[.ref tt]) (List.map dO (fs.take i++[t]))
   rw [List.map_append]
   exact(r8.same s9).snoc (.tup trivial h6 (.cons (.str _) (.cons (.tup trivial h7 (RdA.strs _)) (.cons (.str _) .nil))))
  rintro fv H8 hy2 ⟨r8,s8⟩ D2 hD2
  rw [List.length_map,cdl,List.take_length] at r8
  refine⟨D2,fv,rfl,.inl ⟨SqL.of aa,fun ft hft=>?_⟩⟩
  have s9:=s8.trans ((ac hD2 (.lst fv)).trans (ac hft (.tup fv)))
  have r9:=r8.same ((ac hD2 (.lst fv)).trans (ac hft (.tup fv)))
  refine⟨_,rfl,x,C,dx,_,rfl,s9 _ _ x7,T.cl,T.nF,wy _ _,?_⟩
  have ft9:(upd (upd H8 D2 (.lst fv)) ft (.tup fv)) ft=some (.tup fv):=aa
  generalize (upd (upd H8 D2 (.lst fv)) ft (.tup fv))=G9 at s9 r9 ft9
  have nfx:ft≠x:=by rintro rfl; rw [s9 _ _ x7] at ft9; cases ft9
  generalize hG10:upd G9 x (.ins C dx (putF "kept_functions" (.ref ft) (flT kt tt)))=HA
  have xA:HA x=some (.ins C dx (flF kt tt ft)):=by rw [← hG10]; exact aa
  have S9A:ax x G9 HA:=by rw [← hG10]; exact ax.upd x G9 _
  have T9A:cP G9 HA:=fun p xs e=>S9A p _ (fun z=>by rw [z,s9 _ _ x7] at e; cases e) e
  have tA:HA tt=some (.tup tv):=S9A _ _ ntx (s9 _ _ t7)
  have fA:HA ft=some (.tup fv):=S9A _ _ nfx ft9
  have kA:HA kt=some (.tup (ks.map V.str)):=S9A _ _ nkx (s9 _ _ k7)
  have rtA:RdA Any HA tv (ts.map dG):=(r7.same s9).monoT (fun _ z=>z) T9A (fZ ts)
  have rfA:RdA Any HA fv (fs.map dO):=r9.monoT (fun _ z=>z) T9A (iY fs)
  have SA:ax x H HA:=(S7.same s9).trans S9A
  have tvl:tv.length=ts.length:=by rw [rtA.length,List.length_map]
  have fvl:fv.length=fs.length:=by rw [rfA.length,List.length_map]
  have small:tv.length+fv.length≤sizeLine:=Nat.le_trans (show tv.length+fv.length≤8 by omega) (by decide)
  refine⟨_,rfl,x,C,dx,_,_,rfl,xA,T.cl,T.nT,mG _ _ _,_,rfl,x,C,dx,_,_,rfl,xA,T.cl,T.nF,mH _ _ _,?_⟩
  refine fM tA fA small fun p HB hp sB'=>?_
  refine⟨p,rfl,⟨_,SqT.of hp⟩,?_⟩
  have rB:RdA Any HB (tv++fv) (ts.map dG++fs.map dO):=(rtA.append rfA).same sB'
  intro cl C1 ex s0 H0
  refine aN (tv++fv).length (fun i ys HC=>ys=(((ts.map dG++fs.map dO).map nmD).take i).map V.str∧Same HB HC) (fun i y=>(tv++fv)[i]? = some y) ⟨rfl,Same.refl _⟩ (by rw [List.length_append]; exact small) (fun i ys HC hi _ ⟨_,z⟩=>og (SqT.of (z _ _ hp)) hi) (fun ys HC _ ⟨_,z⟩=>ld (SqT.of (z _ _ hp))) ?_ ?_
  ·rintro i y ys HC hi hy _ ⟨rfl,sC'⟩
   obtain⟨d,hd,rd⟩:=rB.getV hy
   obtain⟨rr,e⟩:=vc (List.mem_of_getElem? hd)
   rw [e] at rd
   obtain⟨py,px,rfl,_,hpy,hpx⟩:=rd.tuple_inv
   cases hpx with | cons a1 t1=>
   obtain rfl:=a1.str_inv
   refine⟨_,rfl,py,_,_,_,rfl,rfl,SqT.of (sC' _ _ hpy),bL (x:=V.str (nmD d)) (by decide) rfl,?_,sC'⟩
   rw [List.take_succ,List.getElem?_map,hd]
   exact(List.map_append (l₂:=[nmD d])).symm
  rintro ys HC hyl ⟨rfl,sC'⟩ D3 hD3
  have el:(((ts.map dG++fs.map dO).map nmD).take (tv++fv).length)=ts.map (·.nm)++fs.map (·.nm):=by
   rw [List.map_append,wg,wj,List.take_of_length_le]
   simp [tvl,fvl]
  rw [el]
  refine⟨D3,_,rfl,.inl aa,ok.sn,by simp; omega,fun HD sD=>?_⟩
  have sAD:Same HA HD:=(sB'.trans sC').trans ((ac hD3 _).trans sD)
  refine q HD ⟨dx,kt,tt,ft,tv,fv,sAD _ _ xA,sAD _ _ kA,sAD _ _ tA,rtA.same sAD,sAD _ _ fA,rfA.same sAD⟩ (SA.same sAD)
end
inductive Tr where
 | leaf (x:Str)
 | node (ts:List Tr)
mutual
inductive Mix(H:Hp):V→Tr→Prop where
 | leaf (x:Str):Mix H (.str x) (.leaf x)
 | node {a:Addr} {xs:List V} {ts:List Tr}:LT H a xs→bE H xs ts→Mix H (.ref a) (.node ts)
inductive bE(H:Hp):List V→List Tr→Prop where
 | nil:bE H [] []
 | cons {x:V} {xs:List V} {t:Tr} {ts:List Tr}:Mix H x t→bE H xs ts→bE H (x::xs) (t::ts)
end
mutual
inductive Tup(H:Hp):V→Tr→Prop where
 | leaf (x:Str):Tup H (.str x) (.leaf x)
 | node {a:Addr} {xs:List V} {ts:List Tr}:H a=some (.tup xs)→aQ H xs ts→Tup H (.ref a) (.node ts)
inductive aQ(H:Hp):List V→List Tr→Prop where
 | nil:aQ H [] []
 | cons {x:V} {xs:List V} {t:Tr} {ts:List Tr}:Tup H x t→aQ H xs ts→aQ H (x::xs) (t::ts)
end
mutual
theorem cq{H H':Hp}(s:Same H H'):∀ {v:V} {t:Tr},Mix H v t→Mix H' v t
 | _,_,.leaf x=>.leaf x
 | _,_,.node h r=>.node (h.same s) (bO s r)
theorem bO{H H':Hp}(s:Same H H'):∀ {v:List V} {t:List Tr},bE H v t→bE H' v t
 | _,_,.nil=>.nil
 | _,_,.cons a r=>.cons (cq s a) (bO s r)
end
mutual
theorem aX{H H':Hp}(s:cP H H'):∀ {v:V} {t:Tr},Tup H v t→Tup H' v t
 | _,_,.leaf x=>.leaf x
 | _,_,.node h r=>.node (s _ _ h) (ap s r)
theorem ap{H H':Hp}(s:cP H H'):∀ {v:List V} {t:List Tr},aQ H v t→aQ H' v t
 | _,_,.nil=>.nil
 | _,_,.cons a r=>.cons (aX s a) (ap s r)
end
mutual
theorem oH{H:Hp}:∀ {v:V} {t:Tr},Tup H v t→Mix H v t
 | _,_,.leaf x=>.leaf x
 | _,_,.node h r=>.node (.inr h) (fY r)
theorem fY{H:Hp}:∀ {v:List V} {t:List Tr},aQ H v t→bE H v t
 | _,_,.nil=>.nil
 | _,_,.cons a r=>.cons (oH a) (fY r)
end
theorem bE.length{H:Hp}:∀ {v:List V} {t:List Tr},bE H v t→v.length=t.length
 | _,_,.nil=>rfl
 | _,_,.cons _ r=>by rw [List.length_cons,List.length_cons,bE.length r]
theorem aQ.length{H:Hp}:∀ {v:List V} {t:List Tr},aQ H v t→v.length=t.length
 | _,_,.nil=>rfl
 | _,_,.cons _ r=>by rw [List.length_cons,List.length_cons,aQ.length r]
theorem bE.get{H:Hp}:∀ {v:List V} {t:List Tr} {i:Nat} {x:V},bE H v t→v[i]? = some x→∃ y,t[i]? = some y∧Mix H x y
 | _,_,_,_,.nil,h=>by simp at h
 | _,_,0,_,.cons a _,h=>by simp at h; subst h; exact⟨_,rfl,a⟩
 | _,_,i+1,_,.cons _ r,h=>by simpa using bE.get (i:=i) r (by simpa using h)
theorem aQ.snoc{H:Hp}{x:V}{y:Tr}:∀ {v:List V} {t:List Tr},aQ H v t→Tup H x y→aQ H (v++[x]) (t++[y])
 | _,_,.nil,h=>.cons h .nil
 | _,_,.cons a r,h=>.cons a (aQ.snoc r h)
mutual
inductive gr(fs:List aq)(sc:Str→Option Str):Tr→Str→Prop where
 | var {x k:Str}:sc x=some k→gr fs sc (.leaf x) k
 | app {f:aq} {ts:List Tr}:f∈fs→bZ fs sc ts f.ps→gr fs sc (.node (.leaf f.nm::ts)) f.kd
inductive bZ(fs:List aq)(sc:Str→Option Str):List Tr→List Str→Prop where
 | nil:bZ fs sc [] []
 | cons {t:Tr} {k:Str} {ts:List Tr} {ks:List Str}:gr fs sc t k→bZ fs sc ts ks→bZ fs sc (t::ts) (k::ks)
end
def cm(sc:Str→Option Str)(x k:Str):Str→Option Str:=fun y=>if y=x then some k else sc y
mutual
inductive b6(ks:List Str)(ts:List ar)(fs:List aq):(Str→Option Str)→Tr→Prop where
 | eq {sc:Str→Option Str} {a b:Tr} {k:Str}:gr fs sc a k→gr fs sc b k→b6 ks ts fs sc (.node [.leaf "=",a,b])
 | not {sc:Str→Option Str} {a:Tr}:b6 ks ts fs sc a→b6 ks ts fs sc (.node [.leaf "not",a])
 | conn {sc:Str→Option Str} {w:Str} {l:List Tr}:w="and"∨w="or"→l.length≤50→cS ks ts fs sc l→b6 ks ts fs sc (.node (.leaf w::l))
 | bind {sc:Str→Option Str} {w x k:Str} {a:Tr}:w="all"∨w="some"→aK x→k∈ks→b6 ks ts fs (cm sc x k) a→b6 ks ts fs sc (.node [.leaf w,.leaf x,.leaf k,a])
 | tie {sc:Str→Option Str} {t:ar} {l:List Tr}:t∈ts→bZ fs sc l t.ps→b6 ks ts fs sc (.node (.leaf t.nm::l))
inductive cS(ks:List Str)(ts:List ar)(fs:List aq):(Str→Option Str)→List Tr→Prop where
 | nil {sc:Str→Option Str}:cS ks ts fs sc []
 | cons {sc:Str→Option Str} {a:Tr} {l:List Tr}:b6 ks ts fs sc a→cS ks ts fs sc l→cS ks ts fs sc (a::l)
end
mutual
def dep:Tr→Nat
 | .leaf _=>0
 | .node ts=>1+dE ts
def dE:List Tr→Nat
 | []=>0
 | t::ts=>max (dep t) (dE ts)
end
theorem bY{t:Tr}:∀ {ts:List Tr},t∈ts→dep t≤dE ts
 | x::r,h=>by
  show dep t≤max (dep x) (dE r)
  rcases List.mem_cons.mp h with rfl | h
  ·exact Nat.le_max_left _ _
  ·exact Nat.le_trans (bY h) (Nat.le_max_right _ _)
theorem bZ.length{fs:List aq}{sc:Str→Option Str}:∀ {ts:List Tr} {ks:List Str},bZ fs sc ts ks→ts.length=ks.length
 | _,_,.nil=>rfl
 | _,_,.cons _ r=>by rw [List.length_cons,List.length_cons,bZ.length r]
theorem bZ.get{fs:List aq}{sc:Str→Option Str}:∀ {ts:List Tr} {ks:List Str} {i:Nat} {t:Tr} {k:Str},bZ fs sc ts ks→ts[i]? = some t→ks[i]? = some k→gr fs sc t k
 | _,_,_,_,_,.nil,h,_=>by simp at h
 | _,_,0,_,_,.cons a _,h,g=>by simp at h g; subst h g; exact a
 | _,_,i+1,_,_,.cons _ r,h,g=>bZ.get (i:=i) r (by simpa using h) (by simpa using g)
def oy(H:Hp)(a:Addr)(sc:Str→Option Str):Prop:=∃ kvs:List (Key×V),H a=some (.dK kvs)∧kvs.length≤100∧∀ x:Str,bo kvs (.inr x)=(sc x).map V.str
theorem oy.same{H H':Hp}{a:Addr}{sc:Str→Option Str}(h:oy H a sc)(s:Same H H'):oy H' a sc:=let ⟨kvs,e,r⟩:=h; ⟨kvs,s _ _ e,r⟩
theorem zz:¬ (("tie_places":Str)="known_kinds"):=by decide +kernel
theorem zB:¬ (("function_places":Str)="known_kinds"):=by decide +kernel
theorem zA:¬ (("function_places":Str)="tie_places"):=by decide +kernel
theorem zE:¬ (("function_kinds":Str)="known_kinds"):=by decide +kernel
theorem zC:¬ (("function_kinds":Str)="tie_places"):=by decide +kernel
theorem zD:¬ (("function_kinds":Str)="function_places"):=by decide +kernel
def fa1(a:Addr):List (Str×V):=putF "known_kinds" (.ref a) []
def fa2(a b:Addr):List (Str×V):=putF "tie_places" (.ref b) (fa1 a)
def fa3(a b c:Addr):List (Str×V):=putF "function_places" (.ref c) (fa2 a b)
def fa4(a b c d:Addr):List (Str×V):=putF "function_kinds" (.ref d) (fa3 a b c)
theorem zT(a b c d:Addr):(fa4 a b c d).lookup ("known_kinds":Str)=some (.ref a):=by
 unfold fa4 fa3 fa2 fa1
 rw [ah,if_neg (fun z=>zE z.symm),ah,if_neg (fun z=>zB z.symm),ah,if_neg (fun z=>zz z.symm),ah,if_pos rfl]
theorem xz(a b c d:Addr):(fa4 a b c d).lookup ("tie_places":Str)=some (.ref b):=by
 unfold fa4 fa3 fa2
 rw [ah,if_neg (fun z=>zC z.symm),ah,if_neg (fun z=>zA z.symm),ah,if_pos rfl]
theorem xy(a b c d:Addr):(fa4 a b c d).lookup ("function_places":Str)=some (.ref c):=by
 unfold fa4 fa3
 rw [ah,if_neg (fun z=>zD z.symm),ah,if_pos rfl]
theorem zS(a b c d:Addr):(fa4 a b c d).lookup ("function_kinds":Str)=some (.ref d):=by
 unfold fa4
 rw [ah,if_pos rfl]
structure ClT(K:PySem.W.Frag)(C:Addr):Prop where
 cl:Cls K C
 n1:bd K C "known_kinds"
 n2:bd K C "tie_places"
 n3:bd K C "function_places"
 n4:bd K C "function_kinds"
def gq(C:Addr)(H:Hp)(x:Addr)(ks:List Str)(ts:List ar)(fs:List aq):Prop:=
 ∃ (dx a b c d:Addr) (tp fp fk:List (Key×V)),H x=some (.ins C dx (fa4 a b c d))∧H a=some (.lst (ks.map V.str))∧H b=some (.dK tp)∧H c=some (.dK fp)∧H d=some (.dK fk)∧
  (∀ t∈ts,∃ q,bo tp (.inr t.nm)=some (.ref q)∧H q=some (.tup (t.ps.map V.str)))∧(∀ t∈fs,∃ q,bo fp (.inr t.nm)=some (.ref q)∧H q=some (.tup (t.ps.map V.str)))∧∀ t∈fs,bo fk (.inr t.nm)=some (.str t.kd)
theorem gq.same{C:Addr}{H H':Hp}{x:Addr}{ks:List Str}{ts:List ar}{fs:List aq}(h:gq C H x ks ts fs)(s:Same H H'):gq C H' x ks ts fs:=by
 obtain⟨dx,a,b,c,d,tp,fp,fk,h1,h2,h3,h4,h5,h6,h7,h8⟩:=h
 refine⟨dx,a,b,c,d,tp,fp,fk,s _ _ h1,s _ _ h2,s _ _ h3,s _ _ h4,s _ _ h5,fun t ht=>?_,fun t ht=>?_,h8⟩
 ·obtain⟨q,e1,e2⟩:=h6 t ht; exact⟨q,e1,s _ _ e2⟩
 ·obtain⟨q,e1,e2⟩:=h7 t ht; exact⟨q,e1,s _ _ e2⟩
theorem Mix.inv{H:Hp}{v:V}{x:Str}{ts:List Tr}(h:Mix H v (.node (.leaf x::ts))):∃ a ys,v=.ref a∧LT H a (.str x::ys)∧bE H ys ts:=by
 cases h with
 | node hL hA=>
  cases hA with
  | cons h1 hA=>
   cases h1
   exact⟨_,_,rfl,hL,hA⟩
theorem vj{K:PySem.W.Frag}{H:Hp}{a:Addr}{xs:List V}{i:Int}{v:V}{Q:VK}(h:SqL K H a xs∨SqT K H a xs)(hv:atI xs i=some v)(q:Q v H):rIx K (.ref a) (.int i) H Q:=
 h.elim (fun h=>.inl ⟨a,xs,i,v,rfl,rfl,h,hv,q⟩) fun h=>.inr (.inl ⟨a,xs,i,v,rfl,rfl,h,hv,q⟩)
theorem wx{K:PySem.W.Frag}{a b:Addr}{xs ys:List V}{g:TG}{tb:TS}{D:dn}{σ:St}{H:Hp}(hlen:xs.length=ys.length)(Pv:Nat→St→Hp→Prop)(h0:Pv 0 σ H)(hl:∀ i σ H,i≤xs.length→Pv i σ H→SqL K H a xs∧SqT K H b ys)
  (hs:∀ i x y σ H p,xs[i]? = some x→ys[i]? = some y→H p=none→Pv i σ H→g (.ref p) σ (upd H p (.tup [x,y])) fun σ2 H2=>tb {D with nx:=Pv (i+1),ct:=Pv (i+1),bk:=D.nx} σ2 H2) (hd:∀ σ H,Pv xs.length σ H→D.nx σ H) :
  ∃ W:Nat→Nat→St→Hp→Prop,(∃ m,W 0 m σ H)∧∀ i m σ H,W i m σ H→
   ((Itz K a b).stop i H∧D.nx σ H)∨((Itz K a b).go i H∧∃ N:St→Hp→Prop,(∀ σ' H',N σ' H'→∃ m',m'<m∧W (i+1) m' σ' H')∧∀ x H',(Itz K a b).yld i H x H'→g x σ H' fun σ2 H2=>tb {D with nx:=N,ct:=N,bk:=D.nx} σ2 H2):=by
 refine⟨fun i m σ H=>m=xs.length-i∧i≤xs.length∧Pv i σ H,⟨xs.length,by simp,Nat.zero_le _,h0⟩,?_⟩
 rintro i m σ H ⟨rfl,hi,p⟩
 obtain⟨q1,q2⟩:=hl i σ H hi p
 by_cases hlt:i<xs.length
 ·refine .inr ⟨⟨xs,ys,xs[i],ys[i],q1,q2,by simp [hlt],by simp [hlen▸hlt]⟩,Pv (i+1),fun σ' H' p'=>⟨xs.length - (i+1),by omega,rfl,hlt,p'⟩,fun x H' y=>?_⟩
  obtain⟨pp,x',y',hp,rfl,rfl,e1,e2⟩:=y
  exact hs i x' y' σ H pp (e1 xs q1) (e2 ys q2) hp p
 ·have e:i=xs.length:=by omega
  subst e
  exact .inl ⟨⟨xs,ys,q1,q2,Nat.le_refl _⟩,hd σ H p⟩
section
abbrev dL:Stmt:=top 21
theorem zbv:ak ["things","many"] ["things","many"] (af dL):=by walk_at "F"
inductive spCheckManyI(vs:List V)(H:Hp)(Q:VK):Prop where
 | mk:∀ (a:Addr) (xs:List V),vs=[.ref a,.int xs.length]→H a=some (.lst xs)→Q .non H→spCheckManyI vs H Q
def bw:Sp:=fun vs H Q _=>spCheckManyI vs H Q
theorem jf(F:am K mg "check_many" dL ["things","many"])(Z:Bl mg):Def P w K mg base "check_many" 1 ["things","many"] bw:=by
 have SC:=zbv
 refine F.mk' (k:=0) zbv (fun vs H Q E h=>?_) (fun f cdv A outer s H vs Q E hr h=>?_)
 ·obtain⟨a,xs,rfl,_⟩:=h
  rfl
 ·obtain⟨a,xs,rfl,ha,q⟩:=h
  refine'⟨_,?derivation,?_⟩
  case derivation=>(walk_at "S1")
  exact⟨_,rfl,a,_,rfl,.inl (SqL.of ha),_,rfl,rfl,_,rfl,ifF (by simp) q⟩
abbrev bP:Stmt:=top 20
theorem zbw:ak ["thing","room","word","things"] ["thing","room"] (af bP):=by walk_at "F"
inductive spWordI(vs:List V)(H:Hp)(Q:VK):Prop where
 | mk:∀ (v:V) (x:Str) (ts:List Tr) (r:Int),vs=[v,.int r]→Mix H v (.node (.leaf x::ts))→0<r→(∀ p l xs H',H' p=some (.tup [.str x,.ref l])→H' l=some (.lst xs)→bE H' xs ts→Same H H'→Q (.ref p) H')→spWordI vs H Q
def iB:Sp:=fun vs H Q _=>spWordI vs H Q
theorem vL(F:am K mg "word_and_things" bP ["thing","room"])(Z:Bl mg)(D_is_list:Def P w K mg base "is_list" 1 ["thing"] ck):Def P w K mg base "word_and_things" 2 ["thing","room"] iB:=by
 have SC:=zbw
 refine F.mk' (k:=1) zbw (fun vs H Q E h=>?_) (fun f cdv A outer s H vs Q E hr h=>?_)
 ·obtain⟨v,x,ts,r,rfl,_⟩:=h
  rfl
 ·obtain⟨v,x,ts,r,rfl,hm,hr0,q⟩:=h
  obtain⟨a,ys,rfl,hL,hA⟩:=hm.inv
  refine'⟨_,?derivation,?_⟩
  case derivation=>(have:=aj 5 86 66 91; have:=aj 16 86 77 85; walk_at "S2")
  refine⟨_,rfl,rfl,_,rfl,ifF (by simp; omega) ?_⟩
  refine⟨_,rfl,a,_,rfl,hL,fun H1 s1=>⟨true,rfl,bI ?_⟩⟩
  refine⟨_,rfl,a,_,rfl,(hL.same s1).sq,rfl,_,rfl,ifF (by simp; omega) ?_⟩
  refine⟨_,rfl,vj (hL.same s1).sq (bL (x:=V.str x) (by decide) rfl) ⟨_,_,_,rfl,.str _,bX K,true,rfl,bI ?_⟩⟩
  refine⟨_,rfl,a,_,_,rfl,(hL.same s1).sq,fun l hl=>⟨_,_,rfl,_,_,rfl,rfl,?_⟩⟩
  refine⟨_,rfl,_,rfl,by show 2≤sizeLine; decide,fun p hp=>?_⟩
  have s2:=s1.trans (ac hl (.lst ys))
  have s3:=s2.trans (ac hp (.tup [.str x,.ref l]))
  exact q p l ys _ aa (ac hp _ _ _ aa) (bO s3 hA) s3
abbrev bQ:Stmt:=top 18
theorem zbx:ak ["table","thing","scope","room","name","things","row"] ["table","thing","scope","room"] (af bQ):=by walk_at "F"
abbrev bG:Stmt:=top 19
theorem zby:ak ["table","things","places","scope","room","row","thing","place","term","kind"] ["table","things","places","scope","room"] (af bG):=by walk_at "F"
inductive spTmI(C:Addr)(n:Nat)(vs:List V)(H:Hp)(Q:VK):Prop where
 | mk:∀ (x sc:Addr) (v:V) (r:Int) (ks:List Str) (ts:List ar) (fs:List aq) (S:Str→Option Str) (t:Tr) (k:Str),vs=[.ref x,v,.ref sc,.int r]→gq C H x ks ts fs→((∀ f∈fs,f.ps.length≤2))→oy H sc S→Mix H v t→gr fs S t k→dep t≤n→(dep t:Int)≤r→(∀ p u H',H' p=some (.tup [u,.str k])→Tup H' u t→Same H H'→Q (.ref p) H')→spTmI C n vs H Q
def rS(C:Addr)(n:Nat):Sp:=fun vs H Q _=>spTmI C n vs H Q
inductive spRowI(C:Addr)(n:Nat)(vs:List V)(H:Hp)(Q:VK):Prop where
 | mk:∀ (x sc l pl:Addr) (r:Int) (ks:List Str) (ts:List ar) (fs:List aq) (S:Str→Option Str) (xs:List V) (l':List Tr) (ps:List Str),vs=[.ref x,.ref l,.ref pl,.ref sc,.int r]→gq C H x ks ts fs→((∀ f∈fs,f.ps.length≤2))→oy H sc S→H l=some (.lst xs)→bE H xs l'→H pl=some (.tup (ps.map V.str))→bZ fs S l' ps→ps.length≤2→dE l'≤n→(dE l':Int)≤r→(∀ q us H',H q=none→H' q=some (.lst us)→aQ H' us l'→Same H H'→Q (.ref q) H')→spRowI C n vs H Q
def jy(C:Addr)(n:Nat):Sp:=fun vs H Q _=>spRowI C n vs H Q
theorem jG{C:Addr}(F:am K mg "checked_row" bG ["table","things","places","scope","room"])(Z:Bl mg)(n_zip:mg "zip"=none)(D_check_many:Def P w K mg base "check_many" 1 ["things","many"] bw)(n:Nat)
  (D_checked_term:Def P w K mg base "checked_term" (2*n+3) ["table","thing","scope","room"] (rS C n)):Def P w K mg base "checked_row" (2*n+4) ["table","things","places","scope","room"] (jy C n):=by
 have SC:=zby
 refine F.mk' (k:=2*n+3) zby (fun vs H Q E h=>?_) (fun f cdv A outer s H vs Q E hr h=>?_)
 ·obtain⟨x,sc,l,pl,r,ks,ts,fs,S,xs,l',ps,rfl,_⟩:=h
  rfl
 ·obtain⟨x,sc,l,pl,r,ks,ts,fs,S,xs,l',ps,rfl,hT,hp2,hS,hl,hm,hp,ht,h2,hn,hrr,q⟩:=h
  refine'⟨_,?derivation,?_⟩
  case derivation=>(walk_at "S2")
  have len1:=hm.length
  have len2:=ht.length
  have lenE:xs.length=(ps.map V.str).length:=by rw [List.length_map]; omega
  refine⟨_,rfl,_,rfl,pl,_,rfl,.inr (SqT.of hp),l,xs,by rw [lenE]; rfl,hl,?_⟩
  refine⟨by show 0≤sizeLine; decide,fun D hD=>?_⟩
  have s1:=ac hD (.lst [])
  refine⟨_,rfl,_,rfl,l,pl,xs,_,rfl,SqL.of (s1 _ _ hl),SqT.of (s1 _ _ hp),?_⟩
  refine wx (K:=K) (a:=l) (b:=pl) (xs:=xs) (ys:=ps.map V.str) lenE (fun i σ H2=>∃ (us:List V) (v6 v7 v8 v9:Option V),σ=[some (.ref x),some (.ref l),some (.ref pl),some (.ref sc),some (.int r),some (.ref D),v6,v7,v8,v9]∧Same H H2∧H2 D=some (.lst us)∧aQ H2 us (l'.take i))
   ⟨[],none,none,none,none,rfl,s1,aa,.nil⟩ (fun i σ H2 _ ⟨_,_,_,_,_,_,y,_⟩=>⟨SqL.of (y _ _ hl),SqT.of (y _ _ hp)⟩) ?_ ?_
  ·rintro i y z σ H2 p hy hz hpn ⟨us,v6,v7,v8,v9,rfl,s2,eD,hu⟩
   rw [List.getElem?_map] at hz
   obtain⟨k,hk,rfl⟩:=Option.map_eq_some_iff.mp hz
   obtain⟨t,ht',hmt⟩:=hm.get hy
   have dt:=bY (List.mem_of_getElem? ht')
   have s3:=ac hpn (.tup [y,.str k])
   have s03:=s2.trans s3
   refine⟨p,_,rfl,SqT.of aa,rfl,_,_,rfl,_,_,rfl,rfl,?_⟩
   refine⟨_,rfl,_,rfl,_,rfl,_,rfl,x,sc,y,r,ks,ts,fs,S,t,k,rfl,hT.same s03,hp2,hS.same s03,cq s03 hmt,ht.get ht' hk,by omega,by omega,fun p2 u H3 e3 tu s4=>?_⟩
   refine⟨p2,_,rfl,SqT.of e3,rfl,_,_,rfl,_,_,rfl,rfl,?_⟩
   refine⟨_,rfl,_,rfl,rfl,_,rfl,mD rfl ?_⟩
   have s23:=s3.trans s4
   have eD3:=s23 _ _ eD
   have usl:=hu.length
   rw [List.length_take] at usl
   refine⟨_,rfl,.inl ⟨rfl,_,SqL.of eD3⟩,_,rfl,D,us,_,rfl,rfl,eD3,Nat.lt_of_le_of_lt (show us.length≤2 by omega) (by decide),us++[u],_,_,_,_,rfl,fun c o e=>by rw [ad (ae e hD)]; exact s23 c o (s2 c o e),aa,?_⟩
   have tp:cP H3 (upd H3 D (.lst (us++[u]))):=fun c zs e=>by rw [ad (fun w=>by rw [w,eD3] at e; cases e)]; exact e
   rw [List.take_succ,ht']
   exact(ap tp (ap (Same.tups s23) hu)).snoc (aX tp tu)
  ·rintro σ H2 ⟨us,v6,v7,v8,v9,rfl,s2,eD,hu⟩
   rw [len1,List.take_length] at hu
   exact⟨_,rfl,q D us H2 hD eD hu s2⟩
def nc(C:Addr):Nat→Sp
 | 0=>fun _ _ _ _=>False
 | n+1=>jy C n
theorem pX{C:Addr}{m:Nat}{vs:List V}{H:Hp}{Q:VK}{E:XK}(h:jy C m vs H Q E):nc C (m+1) vs H Q E:=h
theorem vR{C:Addr}(F:am K mg "checked_row" bG ["table","things","places","scope","room"]):Def P w K mg base "checked_row" 2 ["table","things","places","scope","room"] (nc C 0):=
 F.mk' (k:=1) zby (fun vs H Q E h=>False.elim h) fun f cdv A outer s H vs Q E hr h=>False.elim h
theorem iM{C:Addr}(F:am K mg "checked_term" bQ ["table","thing","scope","room"])(Z:Bl mg)(T:ClT K C)(D_word_and_things:Def P w K mg base "word_and_things" 2 ["thing","room"] iB)(n:Nat)
  (D_checked_row:Def P w K mg base "checked_row" (2*n+2) ["table","things","places","scope","room"] (nc C n)):Def P w K mg base "checked_term" (2*n+3) ["table","thing","scope","room"] (rS C n):=by
 have SC:=zbx
 refine F.mk' (k:=2*n+2) zbx (fun vs H Q E h=>?_) (fun f cdv A outer s H vs Q E hr h=>?_)
 ·obtain⟨x,sc,v,r,ks,ts,fs,S,t,k,rfl,_⟩:=h
  rfl
 ·obtain⟨x,sc,v,r,ks,ts,fs,S,t,k,rfl,hT,hp2,hS,hm,ht,hn,hrr,q⟩:=h
  refine'⟨_,?derivation,?_⟩
  case derivation=>(have:=aj 5 67 7 29; have:=aj 17 74 37 64; have:=aj 17 75 33 59; have:=aj 17 70 23 35; have:=aj 18 75 18 30; have:=aj 19 72 7 40; have:=aj 19 68 11 29; walk_at "S2")
  cases ht with
  | var hsc=>
   rename_i x0
   cases hm
   obtain⟨kvs,e1,_,e2⟩:=hS
   have hg:fR H sc (.str x0) (some (.str k)):=by
    have:=fR.k (k:=.inr x0) e1
    rw [e2,hsc] at this
    exact this
   refine⟨_,rfl,_,_,_,rfl,.str _,bX K,true,rfl,ifT rfl ?_⟩
   refine⟨_,rfl,_,rfl,sc,_,rfl,hg,_,rfl,bI ?_⟩
   exact⟨_,rfl,_,rfl,_,rfl,sc,_,rfl,hg,by show 2≤sizeLine; decide,fun p hp=>q p _ _ aa (.leaf _) (ac hp _)⟩
  | app hf hts=>
   rename_i fn l'
   have hd:dep (.node (.leaf fn.nm::l'))=1+dE l':=by
    show 1+max 0 (dE l')=_
    rw [Nat.max_eq_right (Nat.zero_le _)]
   rw [hd] at hn hrr
   obtain⟨m,rfl⟩:∃ m,n=m+1:=⟨n-1,by omega⟩
   obtain⟨a,ys,rfl,hL,hA⟩:=hm.inv
   obtain⟨ty,hty,hk⟩:∃ ty,dW K H (.ref a) ty∧PySem.W.kitOne K ty (.type "str")=some false:=hL.elim (fun h=>⟨_,.lst h,rfl⟩) fun h=>⟨_,.tup h,rfl⟩
   refine⟨_,rfl,_,ty,false,rfl,hty,hk,false,rfl,bI ?_⟩
   refine⟨_,rfl,_,rfl,.ref a,fn.nm,l',r,rfl,hm,by omega,fun p l xs H1 e1 e2 m1 s1=>?_⟩
   refine⟨p,_,rfl,SqT.of e1,rfl,_,_,rfl,_,_,rfl,rfl,?_⟩
   have hT1:=hT.same s1
   obtain⟨dx,ka,tb,fb,kb,tp,fp,fk,h1,h2,h3,h4,h5,h6,h7,h8⟩:=id hT1
   obtain⟨pl,g1,g2⟩:=h7 fn hf
   have hg:∀ H',Same H1 H'→fR H' fb (.str fn.nm) (some (.ref pl)):=fun H' s=>by
    have:=fR.k (k:=.inr fn.nm) (s _ _ h4)
    rw [g1] at this
    exact this
   have hgk:∀ H',Same H1 H'→fR H' kb (.str fn.nm) (some (.str fn.kd)):=fun H' s=>by
    have:=fR.k (k:=.inr fn.nm) (s _ _ h5)
    rw [h8 fn hf] at this
    exact this
   refine⟨_,rfl,_,rfl,x,C,dx,_,_,rfl,h1,T.cl,T.n3,xy _ _ _ _,fb,_,rfl,hg H1 (Same.refl _),_,rfl,bI ?_⟩
   refine⟨_,rfl,_,rfl,_,rfl,x,C,dx,_,_,rfl,h1,T.cl,T.n3,xy _ _ _ _,_,rfl,fb,_,rfl,hg H1 (Same.refl _),_,rfl,_,rfl,r,1,rfl,rfl,?_⟩
   unfold e7
   refine pX ?_
   refine⟨x,sc,l,pl,r-1,ks,ts,fs,S,xs,l',fn.ps,rfl,hT1,hp2,hS.same s1,e2,m1,g2,hts,hp2 fn hf,by omega,by omega,fun q' us H2 hq' e3 tu s2=>?_⟩
   refine⟨_,rfl,by show 1≤sizeLine; decide,fun l1 hl1=>?_⟩
   have s3:=ac hl1 (.lst [.str fn.nm])
   have usl:=tu.length
   have ll:=hts.length
   have l2:=hp2 fn hf
   refine⟨_,rfl,l1,q',_,_,rfl,rfl,aa,s3 _ _ e3,Nat.le_trans (show 1+us.length≤100 by omega) (by decide),fun L hL=>?_⟩
   refine⟨L,_,rfl,.inl ⟨SqL.of aa,fun tt htt=>?_⟩⟩
   have s4:=ac hL (.lst ([.str fn.nm]++us))
   have s5:=ac htt (.tup ([.str fn.nm]++us))
   have s25:=(s3.trans s4).trans s5
   have s15:=s2.trans s25
   refine⟨_,rfl,x,C,dx,_,_,rfl,s15 _ _ h1,T.cl,T.n4,zS _ _ _ _,_,rfl,kb,_,rfl,hgk _ s15,by show 2≤sizeLine; decide,fun pp hpp=>?_⟩
   have s6:=ac hpp (.tup [.ref tt,.str fn.kd])
   exact q pp (.ref tt) _ aa (.node (s6 _ _ aa) (.cons (.leaf _) (ap (Same.tups (s25.trans s6)) tu))) (s1.trans (s15.trans s6))
theorem lP{C:Addr}(F1:am K mg "checked_term" bQ ["table","thing","scope","room"])(F2:am K mg "checked_row" bG ["table","things","places","scope","room"])(Z:Bl mg)(T:ClT K C)(n_zip:mg "zip"=none)
  (D_word_and_things:Def P w K mg base "word_and_things" 2 ["thing","room"] iB) (D_check_many:Def P w K mg base "check_many" 1 ["things","many"] bw) :
  ∀ n,Def P w K mg base "checked_term" (2*n+3) ["table","thing","scope","room"] (rS C n)∧Def P w K mg base "checked_row" (2*n+4) ["table","things","places","scope","room"] (jy C n)
 | 0=>
  have h1:=iM F1 Z T D_word_and_things 0 (vR F2)
  ⟨h1,jG F2 Z n_zip D_check_many 0 h1⟩
 | n+1=>by
  have ih:=lP F1 F2 Z T n_zip D_word_and_things D_check_many n
  have h1:=iM (C:=C) F1 Z T D_word_and_things (n+1) (by
   rw [show 2*(n+1)+2=2*n+4 from by omega]
   exact ih.2)
  exact⟨h1,jG F2 Z n_zip D_check_many (n+1) h1⟩
end
def ScB(H:Hp)(a:Addr)(sc:Str→Option Str)(b:Nat):Prop:=∃ kvs:List (Key×V),H a=some (.dK kvs)∧kvs.length≤b∧∀ x:Str,bo kvs (.inr x)=(sc x).map V.str
theorem ScB.same{H H':Hp}{a:Addr}{sc:Str→Option Str}{b:Nat}(h:ScB H a sc b)(s:Same H H'):ScB H' a sc b:=let ⟨kvs,e,r⟩:=h; ⟨kvs,s _ _ e,r⟩
theorem ScB.at{H:Hp}{a:Addr}{sc:Str→Option Str}{b:Nat}(h:ScB H a sc b)(hb:b≤100):oy H a sc:=let ⟨kvs,e,l,r⟩:=h; ⟨kvs,e,Nat.le_trans l hb,r⟩
theorem mC{c A B R:Prop}[Decidable c](h:R)(f:c→R→A)(g:¬ c→R→B):if c then A else B:=by
 by_cases hc:c
 ·rw [if_pos hc]; exact f hc h
 ·rw [if_neg hc]; exact g hc h
theorem iW{K:PySem.W.Frag}{z:Str}{ws:List Str}{H:Hp}{Q:VK}(hz:(ws.map V.str).length≤sizeLine)(q:∀ tt,H tt=none→Q (.bl (decide (z∈ws))) (upd H tt (.tup (ws.map V.str)))):(ws.map V.str).length≤sizeLine∧∀ p,H p=none→rIn K false (.str z) (.ref p) (upd H p (.tup (ws.map V.str))) Q:=
 ⟨hz,fun tt htt=>⟨tt,ws.map V.str,rfl,.inr (SqT.of aa),rfl,cG ws,by have:=q tt htt; rw [← cu] at this; exact this⟩⟩
theorem ud{z:Str}(h:aK z):z≠"=":=by
 rintro rfl
 revert h
 unfold aK
 decide +kernel
inductive uS(ks:List Str)(ts:List ar)(fs:List aq)(S:Str→Option Str):Str→List Tr→Prop where
 | eq {a b:Tr} {k:Str}:gr fs S a k→gr fs S b k→uS ks ts fs S "=" [a,b]
 | conn {w:Str} {l:List Tr}:w∈[("not":Str),"and","or"]→(w="not"→l.length=1)→l.length≤50→cS ks ts fs S l→uS ks ts fs S w l
 | bind {w x k:Str} {a:Tr}:w∈[("all":Str),"some"]→aK x→k∈ks→b6 ks ts fs (cm S x k) a→uS ks ts fs S w [.leaf x,.leaf k,a]
 | tie {t:ar} {l:List Tr}:t∈ts→bZ fs S l t.ps→uS ks ts fs S t.nm l
theorem y1:¬ (("and":Str)="not"):=by decide +kernel
theorem yZ:¬ (("or":Str)="not"):=by decide +kernel
theorem b6.as{ks:List Str}{ts:List ar}{fs:List aq}{S:Str→Option Str}{t:Tr}(h:b6 ks ts fs S t):∃ w l,t=.node (.leaf w::l)∧uS ks ts fs S w l:=by
 cases h with
 | eq a b=>exact⟨_,_,rfl,.eq a b⟩
 | not a=>exact⟨_,_,rfl,.conn List.mem_cons_self (fun _=>rfl) (show 1≤50 by decide) (.cons a .nil)⟩
 | conn hw hl a=>
  rcases hw with rfl | rfl
  ·exact⟨_,_,rfl,.conn (List.mem_cons_of_mem _ List.mem_cons_self) (fun z=>absurd z y1) hl a⟩
  ·exact⟨_,_,rfl,.conn (List.mem_cons_of_mem _ (List.mem_cons_of_mem _ List.mem_cons_self)) (fun z=>absurd z yZ) hl a⟩
 | bind hw hx hk a=>
  rcases hw with rfl | rfl
  ·exact⟨_,_,rfl,.bind List.mem_cons_self hx hk a⟩
  ·exact⟨_,_,rfl,.bind (List.mem_cons_of_mem _ List.mem_cons_self) hx hk a⟩
 | tie ht a=>exact⟨_,_,rfl,.tie ht a⟩
theorem cS.get{ks:List Str}{ts:List ar}{fs:List aq}{S:Str→Option Str}:∀ {l:List Tr} {i:Nat} {t:Tr},cS ks ts fs S l→l[i]? = some t→b6 ks ts fs S t
 | _,_,_,.nil,h=>by simp at h
 | _,0,_,.cons a _,h=>by simp at h; subst h; exact a
 | _,i+1,_,.cons _ r,h=>cS.get (i:=i) r (by simpa using h)
theorem wd1:∀ w∈[("not":Str),"and","or"],w≠"=":=by decide +kernel
theorem wd2:∀ w∈[("all":Str),"some"],w≠"="∧w≠"not"∧w∉[("not":Str),"and","or"]:=by decide +kernel
theorem wd3{z:Str}(h:eX z):z≠"="∧z≠"not"∧z∉[("not":Str),"and","or"]∧z∉[("all":Str),"some"]:=by
 have h2:=h.2
 unfold sayWords at h2
 simp only [List.mem_cons,List.not_mem_nil,or_false,not_or] at h2 ⊢
 exact⟨ud h.1,h2.2.2.1,⟨h2.2.2.1,h2.2.2.2.1,h2.2.2.2.2⟩,h2.1,h2.2.1⟩
theorem uK(w:Str)(l:List Tr):dep (.node (.leaf w::l))=1+dE l:=by
 show 1+max 0 (dE l)=_
 rw [Nat.max_eq_right (Nat.zero_le _)]
section
abbrev bh:Stmt:=top 16
theorem zbz:ak ["table","things","scope","room","left","left_kind","right","right_kind"] ["table","things","scope","room"] (af bh):=by walk_at "F"
inductive spEqI(C:Addr)(n:Nat)(vs:List V)(H:Hp)(Q:VK):Prop where
 | mk:∀ (x sc l:Addr) (r:Int) (ks:List Str) (ts:List ar) (fs:List aq) (S:Str→Option Str) (va vb:V) (a b:Tr) (k:Str),vs=[.ref x,.ref l,.ref sc,.int r]→gq C H x ks ts fs→((∀ f∈fs,f.ps.length≤2))→oy H sc S→H l=some (.lst [va,vb])→Mix H va a→Mix H vb b→gr fs S a k→gr fs S b k→dep a≤n→dep b≤n→(dep a:Int)≤r→(dep b:Int)≤r→(∀ u H',Tup H' u (.node [.leaf "=",a,b])→Same H H'→Q u H')→spEqI C n vs H Q
def zd(C:Addr)(n:Nat):Sp:=fun vs H Q _=>spEqI C n vs H Q
theorem xp{C:Addr}(F:am K mg "checked_equation" bh ["table","things","scope","room"])(Z:Bl mg)(D_check_many:Def P w K mg base "check_many" 1 ["things","many"] bw)(n:Nat)
  (D_checked_term:Def P w K mg base "checked_term" (2*n+3) ["table","thing","scope","room"] (rS C n)):Def P w K mg base "checked_equation" (2*n+4) ["table","things","scope","room"] (zd C n):=by
 have SC:=zbz
 refine F.mk' (k:=2*n+3) zbz (fun vs H Q E h=>?_) (fun f cdv A outer s H vs Q E hr h=>?_)
 ·obtain⟨x,sc,l,r,ks,ts,fs,S,va,vb,a,b,k,rfl,_⟩:=h
  rfl
 ·obtain⟨x,sc,l,r,ks,ts,fs,S,va,vb,a,b,k,rfl,hT,hp2,hS,hl,ma,mb,ta,tb,na,nb,ra,rb,q⟩:=h
  refine'⟨_,?derivation,?_⟩
  case derivation=>(walk_at "S2")
  refine⟨_,rfl,l,[va,vb],rfl,hl,?_⟩
  refine⟨_,rfl,_,rfl,l,_,_,_,rfl,rfl,SqL.of hl,rfl,_,rfl,_,rfl,x,sc,va,r,ks,ts,fs,S,a,k,rfl,hT,hp2,hS,ma,ta,na,ra,fun p1 ua H1 e1 t1 s1=>?_⟩
  refine⟨p1,_,rfl,SqT.of e1,rfl,_,_,rfl,_,_,rfl,rfl,?_⟩
  refine⟨_,rfl,_,rfl,l,_,_,_,rfl,rfl,SqL.of (s1 _ _ hl),rfl,_,rfl,_,rfl,x,sc,vb,r,ks,ts,fs,S,b,k,rfl,hT.same s1,hp2,hS.same s1,cq s1 mb,tb,nb,rb,fun p2 ub H2 e2 t2 s2=>?_⟩
  refine⟨p2,_,rfl,SqT.of e2,rfl,_,_,rfl,_,_,rfl,rfl,?_⟩
  refine⟨_,rfl,_,rfl,rfl,_,rfl,mD rfl ?_⟩
  refine⟨_,rfl,_,rfl,by show 3≤sizeLine; decide,fun p3 hp3=>?_⟩
  have s3:=ac hp3 (.tup [.str "=",ua,ub])
  exact q _ _ (.node aa (.cons (.leaf _) (.cons (aX (Same.tups (s2.trans s3)) t1) (.cons (aX (Same.tups s3) t2) .nil)))) (s1.trans (s2.trans s3))
abbrev aY:Stmt:=top 17
theorem zb0:ak ["table","word","things","scope","room","variable","kind","part","inner"] ["table","word","things","scope","room"] (af aY):=by walk_at "F"
abbrev ba:Stmt:=top 15
theorem zb1:ak ["table","thing","scope","room","word","things"] ["table","thing","scope","room"] (af ba):=by walk_at "F"
inductive spSayI(C:Addr)(n:Nat)(vs:List V)(H:Hp)(Q:VK):Prop where
 | mk:∀ (x sc:Addr) (v:V) (r:Int) (ks:List Str) (ts:List ar) (fs:List aq) (S:Str→Option Str) (bb:Nat) (t:Tr),vs=[.ref x,v,.ref sc,.int r]→gq C H x ks ts fs→au ks ts fs→ScB H sc S bb→bb+n≤100→Mix H v t→b6 ks ts fs S t→dep t≤n→(dep t:Int)≤r→(∀ u H',Tup H' u t→Same H H'→Q u H')→spSayI C n vs H Q
def jx(C:Addr)(n:Nat):Sp:=fun vs H Q _=>spSayI C n vs H Q
inductive spBindI(C:Addr)(n:Nat)(vs:List V)(H:Hp)(Q:VK):Prop where
 | mk:∀ (x sc l:Addr) (r:Int) (ks:List Str) (ts:List ar) (fs:List aq) (S:Str→Option Str) (bb:Nat) (wd xn kd:Str) (v:V) (t:Tr),vs=[.ref x,.str wd,.ref l,.ref sc,.int r]→gq C H x ks ts fs→au ks ts fs→ScB H sc S bb→bb+1+n≤100→H l=some (.lst [.str xn,.str kd,v])→aK xn→kd∈ks→Mix H v t→b6 ks ts fs (cm S xn kd) t→dep t≤n→(dep t:Int)≤r→(∀ u H',Tup H' u (.node [.leaf wd,.leaf xn,.leaf kd,t])→Same H H'→Q u H')→spBindI C n vs H Q
def np(C:Addr)(n:Nat):Sp:=fun vs H Q _=>spBindI C n vs H Q
theorem nN{C:Addr}(F:am K mg "checked_binding" aY ["table","word","things","scope","room"])(Z:Bl mg)(n_dict:mg "dict"=none)(T:ClT K C)(D_check_many:Def P w K mg base "check_many" 1 ["things","many"] bw)(D_is_name:Def P w K mg base "is_name" 1 ["thing"] dv)(n k:Nat)
  (D_checked_saying:Def P w K mg base "checked_saying" (k+1) ["table","thing","scope","room"] (jx C n)):Def P w K mg base "checked_binding" (k+2) ["table","word","things","scope","room"] (np C n):=by
 have SC:=zb0
 refine F.mk' (k:=k+1) zb0 (fun vs H Q E h=>?_) (fun f cdv A outer s H vs Q E hr h=>?_)
 ·obtain⟨x,sc,l,r,ks,ts,fs,S,bb,wd,xn,kd,v,t,rfl,_⟩:=h
  rfl
 ·obtain⟨x,sc,l,r,ks,ts,fs,S,bb,wd,xn,kd,v,t,rfl,hT,ok,hS,hb,hl,hx,hk,hm,hs,hn,hrr,q⟩:=h
  refine'⟨_,?derivation,?_⟩
  case derivation=>(have:=aj 12 58 4 24; have:=aj 20 64 4 26; walk_at "S2")
  refine⟨_,rfl,l,[.str xn,.str kd,v],rfl,hl,?_⟩
  refine⟨_,rfl,l,_,rfl,.inl (SqL.of hl),rfl,_,_,rfl,_,_,rfl,_,_,rfl,rfl,?_⟩
  refine⟨_,rfl,xn,rfl,hx,fun H1 s1=>⟨true,rfl,bI ?_⟩⟩
  refine⟨_,rfl,kd,rfl,ok.kn2 kd hk,fun H2 s2=>⟨true,rfl,bI ?_⟩⟩
  have s02:=s1.trans s2
  have hT2:=hT.same s02
  obtain⟨dx,ka,tb,fb,kb,tp,fp,fk,h1,h2,h3,h4,h5,h6,h7,h8⟩:=id hT2
  refine⟨_,rfl,_,rfl,x,C,dx,_,_,rfl,h1,T.cl,T.n1,zT _ _ _ _,ka,_,rfl,.inl (SqL.of h2),rfl,cG ks,_,rfl,ifF ?_ ?_⟩
  ·rw [cu,decide_eq_true hk]
   decide
  obtain⟨kvs,e1,el,e2⟩:=hS.same s02
  refine⟨_,rfl,sc,kvs,rfl,e1,fun d hd=>?_⟩
  have s3:=ac hd (.dK kvs)
  refine⟨_,rfl,_,rfl,_,rfl,d,_,rfl,rc.k (k:=.inr xn) aa (Nat.lt_of_le_of_lt (show kvs.length≤100 by omega) (by decide)),?_⟩
  have s4:Same H2 (upd (upd H2 d (.dK kvs)) d (.dK (putK kvs (.inr xn) (.str kd)))):=fun c o e=>by rw [ad (ae e hd)]; exact s3 c o e
  have eS:ScB (upd (upd H2 d (.dK kvs)) d (.dK (putK kvs (.inr xn) (.str kd)))) d (cm S xn kd) (bb+1):=by
   refine⟨_,aa,Nat.le_trans (bg _ _ _) (by omega),fun y=>?_⟩
   rw [ir]
   unfold cm
   by_cases hy:y=xn
   ·rw [if_pos (by rw [hy]),if_pos hy]; rfl
   ·rw [if_neg (fun z=>hy (Sum.inr.inj z)),if_neg hy]; exact e2 y
  generalize (upd (upd H2 d (.dK kvs)) d (.dK (putK kvs (.inr xn) (.str kd))))=H4 at s4 eS
  have s04:=s02.trans s4
  refine⟨_,rfl,_,rfl,_,rfl,_,rfl,_,rfl,_,rfl,_,rfl,x,d,v,r,ks,ts,fs,cm S xn kd,bb+1,t,rfl,hT.same s04,ok,eS,by omega,cq s04 hm,hs,hn,hrr,fun u H5 tu s5=>?_⟩
  refine⟨by show 4≤sizeLine; decide,fun p hp=>?_⟩
  have s6:=ac hp (.tup [.str wd,.str xn,.str kd,u])
  exact q _ _ (.node aa (.cons (.leaf _) (.cons (.leaf _) (.cons (.leaf _) (.cons (aX (Same.tups s6) tu) .nil))))) (s04.trans (s5.trans s6))
def m9(C:Addr):Nat→Sp
 | 0=>fun _ _ _ _=>False
 | n+1=>jx C n
def kg(C:Addr):Nat→Sp
 | 0=>fun _ _ _ _=>False
 | n+1=>np C n
theorem pW{C:Addr}{m:Nat}{vs:List V}{H:Hp}{Q:VK}{E:XK}(h:jx C m vs H Q E):m9 C (m+1) vs H Q E:=h
theorem nj{C:Addr}{m:Nat}{vs:List V}{H:Hp}{Q:VK}{E:XK}(h:np C m vs H Q E):kg C (m+1) vs H Q E:=h
theorem jF{C:Addr}(F:am K mg "checked_saying" ba ["table","thing","scope","room"])(Z:Bl mg)(T:ClT K C)(D_check_many:Def P w K mg base "check_many" 1 ["things","many"] bw)(D_word_and_things:Def P w K mg base "word_and_things" 2 ["thing","room"] iB)(n:Nat)
  (D_checked_equation:Def P w K mg base "checked_equation" (2*n+4) ["table","things","scope","room"] (zd C n)) (D_checked_row:Def P w K mg base "checked_row" (2*n+4) ["table","things","places","scope","room"] (jy C n))
  (D_checked_saying:Def P w K mg base "checked_saying" (2*n+3) ["table","thing","scope","room"] (m9 C n)) (D_checked_binding:Def P w K mg base "checked_binding" (2*n+4) ["table","word","things","scope","room"] (kg C n)) :
  Def P w K mg base "checked_saying" (2*n+5) ["table","thing","scope","room"] (jx C n):=by
 have SC:=zb1
 refine F.mk' (k:=2*n+4) zb1 (fun vs H Q E h=>?_) (fun f cdv A outer s H vs Q E hr h=>?_)
 ·obtain⟨x,sc,v,r,ks,ts,fs,S,bb,t,rfl,_⟩:=h
  rfl
 ·obtain⟨x,sc,v,r,ks,ts,fs,S,bb,t,rfl,hT,ok,hS,hb,hm,hs,hn,hrr,q⟩:=h
  refine'⟨_,?derivation,?_⟩
  case derivation=>(have:=aj 18 48 17 93; have:=aj 18 43 21 95; have:=aj 17 48 53 75; have:=aT 43 30 95 1 ["part","table","thing","scope","room","word","things"]; have:=aj 19 46 7 35; walk_at "S2")
  obtain⟨w0,l,rfl,hsA⟩:=hs.as
  rw [uK] at hn hrr
  obtain⟨m,rfl⟩:∃ m,n=m+1:=⟨n-1,by omega⟩
  have hp2:∀ f∈fs,f.ps.length≤2:=fun f hf=>(ok.fn f hf).2.1
  refine⟨_,rfl,_,rfl,v,w0,l,r,rfl,hm,by omega,fun p la xs H1 e1 e2 m1 s1=>?_⟩
  refine⟨p,_,rfl,SqT.of e1,rfl,_,_,rfl,_,_,rfl,rfl,?_⟩
  have hT1:=hT.same s1
  have hS1:=hS.same s1
  cases hsA with
  | eq ta tb=>
   rename_i a b k
   cases m1 with
   | cons ma m1=>
   cases m1 with
   | cons mb m1=>
   cases m1
   have da:dep a≤dE [a,b]:=bY List.mem_cons_self
   have db:dep b≤dE [a,b]:=bY (List.mem_cons_of_mem _ List.mem_cons_self)
   refine⟨_,rfl,rfl,_,rfl,ifT (decide_eq_true rfl) ?_⟩
   exact⟨_,rfl,_,rfl,_,rfl,_,rfl,r,1,rfl,rfl,x,sc,la,r-1,ks,ts,fs,S,_,_,a,b,k,rfl,hT1,hp2,hS1.at (by omega),e2,ma,mb,ta,tb,by omega,by omega,by omega,by omega,fun u H' tu s'=>q u H' tu (s1.trans s')⟩
  | conn hw h1 h50 hl=>
   refine⟨_,rfl,rfl,_,rfl,ifF (by simp; exact wd1 _ hw) ?_⟩
   have ml:=m1.length
   refine⟨_,rfl,rfl,_,rfl,mC ?rest (fun e h=>⟨_,rfl,la,xs,by rw [ml,h1 (V.str.inj (of_decide_eq_true e))]; rfl,e2,h⟩) (fun _ h=>h)⟩
   refine⟨_,rfl,iW (ws:=["not","and","or"]) (by decide) fun tt htt=>⟨_,rfl,ifT (decide_eq_true hw) ?_⟩⟩
   have s2:=s1.trans (ac htt (.tup (List.map V.str ["not","and","or"])))
   have s12:=ac htt (.tup (List.map V.str ["not","and","or"]))
   generalize (upd H1 tt (.tup (List.map V.str ["not","and","or"])))=H2 at s2 s12
   refine⟨_,rfl,by show 1≤sizeLine; decide,fun l1 hl1=>?_⟩
   have s3:=ac hl1 (.lst [.str w0])
   have e3:(upd H2 l1 (.lst [.str w0])) l1=some (.lst [.str w0]):=aa
   generalize (upd H2 l1 (.lst [.str w0]))=H3 at s3 e3
   have s13:=s12.trans s3
   refine⟨_,rfl,la,rfl,⟨_,SqL.of (s13 _ _ e2)⟩,?_⟩
   intro cl C1 ex s0 Hc
   refine aN xs.length (fun i ys H4=>Same H3 H4∧aQ H4 ys (l.take i)) (fun i y=>xs[i]? = some y) ⟨Same.refl _,.nil⟩ (Nat.le_trans (show xs.length≤50 by omega) (by decide))
    (fun i ys H4 hi _ ⟨z,_⟩=>bm (SqL.of (z _ _ (s13 _ _ e2))) hi) (fun ys H4 _ ⟨z,_⟩=>aO (SqL.of (z _ _ (s13 _ _ e2)))) ?_ ?_
   ·rintro i y ys H4 hi hy hyl ⟨s4,t4⟩
    obtain⟨t,ht,hmt⟩:=m1.get hy
    have dt:=bY (List.mem_of_getElem? ht)
    have s14:=s13.trans s4
    refine⟨_,rfl,_,rfl,_,rfl,_,rfl,r,1,rfl,rfl,?_⟩
    unfold e7
    refine pW ⟨x,sc,y,r-1,ks,ts,fs,S,bb,t,rfl,hT1.same s14,ok,hS1.same s14,by omega,cq s14 hmt,hl.get ht,by omega,by omega,fun u H5 tu s5=>⟨s4.trans s5,?_⟩⟩
    rw [List.take_succ,ht]
    exact(ap (Same.tups s5) t4).snoc tu
   ·rintro ys H4 hyl ⟨s4,t4⟩ D hD
    rw [ml,List.take_length] at t4
    have s5:=ac hD (.lst ys)
    refine⟨l1,D,_,_,rfl,rfl,s5 _ _ (s4 _ _ e3),aa,Nat.le_trans (show 1+ys.length≤100 by omega) (by decide),fun L hL=>?_⟩
    refine⟨L,_,rfl,.inl ⟨SqL.of aa,fun tt2 htt2=>?_⟩⟩
    have s6:=ac hL (.lst ([.str w0]++ys))
    have s7:=ac htt2 (.tup ([.str w0]++ys))
    have s47:=s5.trans (s6.trans s7)
    exact q _ _ (.node aa (.cons (.leaf _) (ap (Same.tups s47) t4))) (s1.trans (s13.trans (s4.trans s47)))
  | bind hw hx hk ha=>
   rename_i xn kd a
   cases m1 with
   | cons ma m1=>
   cases m1 with
   | cons mb m1=>
   cases m1 with
   | cons mc m1=>
   cases m1
   cases ma
   cases mb
   have da:dep a≤dE [.leaf xn,.leaf kd,a]:=bY (List.mem_cons_of_mem _ (List.mem_cons_of_mem _ List.mem_cons_self))
   obtain⟨n1,n2,n3⟩:=wd2 _ hw
   refine⟨_,rfl,rfl,_,rfl,ifF (by simp; exact n1) ?_⟩
   refine⟨_,rfl,rfl,_,rfl,ifF (by simp; exact n2) ?_⟩
   refine⟨_,rfl,iW (ws:=["not","and","or"]) (by decide) fun tt htt=>⟨_,rfl,ifF (by rw [decide_eq_false n3]; exact Bool.false_ne_true) ?_⟩⟩
   have s2:=ac htt (.tup (List.map V.str ["not","and","or"]))
   generalize (upd H1 tt (.tup (List.map V.str ["not","and","or"])))=H2 at s2
   refine⟨_,rfl,iW (ws:=["all","some"]) (by decide) fun t2 ht2=>⟨_,rfl,ifT (decide_eq_true hw) ?_⟩⟩
   have s3:=s2.trans (ac ht2 (.tup (List.map V.str ["all","some"])))
   generalize (upd H2 t2 (.tup (List.map V.str ["all","some"])))=H3 at s3
   refine⟨_,rfl,_,rfl,_,rfl,_,rfl,_,rfl,r,1,rfl,rfl,?_⟩
   unfold e7
   refine nj ⟨x,sc,la,r-1,ks,ts,fs,S,bb,w0,xn,kd,_,a,rfl,hT1.same s3,ok,hS1.same s3,by omega,s3 _ _ e2,hx,hk,cq s3 mc,ha,by omega,by omega,fun u H' tu s'=>q u H' tu (s1.trans (s3.trans s'))⟩
  | tie ht hl=>
   rename_i t
   obtain⟨o1,o2,o3⟩:=ok.tn t ht
   obtain⟨n1,n2,n3,n4⟩:=wd3 o1
   refine⟨_,rfl,rfl,_,rfl,ifF (by simp; exact n1) ?_⟩
   refine⟨_,rfl,rfl,_,rfl,ifF (by simp; exact n2) ?_⟩
   refine⟨_,rfl,iW (ws:=["not","and","or"]) (by decide) fun tt htt=>⟨_,rfl,ifF (by rw [decide_eq_false n3]; exact Bool.false_ne_true) ?_⟩⟩
   have s2:=ac htt (.tup (List.map V.str ["not","and","or"]))
   generalize (upd H1 tt (.tup (List.map V.str ["not","and","or"])))=H2 at s2
   refine⟨_,rfl,iW (ws:=["all","some"]) (by decide) fun t2 ht2=>⟨_,rfl,ifF (by rw [decide_eq_false n4]; exact Bool.false_ne_true) ?_⟩⟩
   have s3:=s2.trans (ac ht2 (.tup (List.map V.str ["all","some"])))
   generalize (upd H2 t2 (.tup (List.map V.str ["all","some"])))=H3 at s3
   have hT3:=hT1.same s3
   obtain⟨dx,ka,tb,fb,kb,tp,fp,fk,h1,h2,h3,h4,h5,h6,h7,h8⟩:=id hT3
   obtain⟨pl,g1,g2⟩:=h6 t ht
   have hg:∀ H',Same H3 H'→fR H' tb (.str t.nm) (some (.ref pl)):=fun H' s=>by
    have:=fR.k (k:=.inr t.nm) (s _ _ h3)
    rw [g1] at this
    exact this
   refine⟨_,rfl,_,rfl,x,C,dx,_,_,rfl,h1,T.cl,T.n2,xz _ _ _ _,tb,_,rfl,hg H3 (Same.refl _),_,rfl,bI ?_⟩
   refine⟨_,rfl,by show 1≤sizeLine; decide,fun l1 hl1=>?_⟩
   have s4:=ac hl1 (.lst [.str t.nm])
   have s14:=s3.trans s4
   refine⟨_,rfl,_,rfl,_,rfl,x,C,dx,_,_,rfl,s4 _ _ h1,T.cl,T.n2,xz _ _ _ _,_,rfl,tb,_,rfl,hg _ s4,_,rfl,_,rfl,r,1,rfl,rfl,x,sc,la,pl,r-1,ks,ts,fs,S,xs,l,t.ps,rfl,hT1.same s14,hp2,(hS1.same s14).at (by omega),s14 _ _ e2,bO s14 m1,s4 _ _ g2,hl,o2,by omega,by omega,fun q' us H4 hq' e3 tu s5=>?_⟩
   have usl:=tu.length
   have ll:=hl.length
   refine⟨l1,q',_,_,rfl,rfl,s5 _ _ aa,e3,Nat.le_trans (show 1+us.length≤100 by omega) (by decide),fun L hL=>?_⟩
   refine⟨L,_,rfl,.inl ⟨SqL.of aa,fun tt2 htt2=>?_⟩⟩
   have s6:=ac hL (.lst ([.str t.nm]++us))
   have s7:=ac htt2 (.tup ([.str t.nm]++us))
   exact q _ _ (.node aa (.cons (.leaf _) (ap (Same.tups (s6.trans s7)) tu))) (s1.trans (s14.trans (s5.trans (s6.trans s7))))
theorem vO{C:Addr}(F:am K mg "checked_saying" ba ["table","thing","scope","room"]):Def P w K mg base "checked_saying" 3 ["table","thing","scope","room"] (m9 C 0):=
 F.mk' (k:=2) zb1 (fun vs H Q E h=>False.elim h) fun f cdv A outer s H vs Q E hr h=>False.elim h
theorem t9{C:Addr}(F:am K mg "checked_binding" aY ["table","word","things","scope","room"]):Def P w K mg base "checked_binding" 4 ["table","word","things","scope","room"] (kg C 0):=
 F.mk' (k:=3) zb0 (fun vs H Q E h=>False.elim h) fun f cdv A outer s H vs Q E hr h=>False.elim h
theorem ph{C:Addr}(F1:am K mg "checked_saying" ba ["table","thing","scope","room"])(F2:am K mg "checked_binding" aY ["table","word","things","scope","room"])(F3:am K mg "checked_equation" bh ["table","things","scope","room"])
  (Z:Bl mg) (T:ClT K C) (n_dict:mg "dict"=none) (D_check_many:Def P w K mg base "check_many" 1 ["things","many"] bw) (D_word_and_things:Def P w K mg base "word_and_things" 2 ["thing","room"] iB) (D_is_name:Def P w K mg base "is_name" 1 ["thing"] dv)
  (tm:∀ n,Def P w K mg base "checked_term" (2*n+3) ["table","thing","scope","room"] (rS C n)∧Def P w K mg base "checked_row" (2*n+4) ["table","things","places","scope","room"] (jy C n)) :
  ∀ n,Def P w K mg base "checked_saying" (2*n+5) ["table","thing","scope","room"] (jx C n)
 | 0=>jF F1 Z T D_check_many D_word_and_things 0 (xp F3 Z D_check_many 0 (tm 0).1) (tm 0).2 (vO F1) (t9 F2)
 | n+1=>by
  have ih:=ph F1 F2 F3 Z T n_dict D_check_many D_word_and_things D_is_name tm n
  exact jF F1 Z T D_check_many D_word_and_things (n+1) (xp F3 Z D_check_many (n+1) (tm (n+1)).1) (tm (n+1)).2 ih (nN F2 Z n_dict T D_check_many D_is_name n (2*n+4) ih)
end
theorem iQ{kt tt ft:Addr}:(flF kt tt ft).lookup ("kinds":Str)=none:=uE (by decide +kernel) (by decide +kernel) (by decide +kernel)
theorem kG{kt tt ft:Addr}:(flF kt tt ft).lookup ("ties":Str)=none:=uE (by decide +kernel) (by decide +kernel) (by decide +kernel)
theorem cE{kt tt ft:Addr}:(flF kt tt ft).lookup ("functions":Str)=none:=uE (by decide +kernel) (by decide +kernel) (by decide +kernel)
theorem aH.same{C:Addr}{H H':Hp}{x:Addr}{ks:List Str}{ts:List ar}{fs:List aq}(h:aH C H x ks ts fs)(s:Same H H'):aH C H' x ks ts fs:=h.keep (fun o e=>s x o e) (Same.tups s)
theorem pk{α β:Type}{f:α→β}:∀ {l:List α},(l.map f).Nodup→∀ {x y:α},x∈l→y∈l→f x=f y→x=y
 | [],_,_,_,h,_,_=>nomatch h
 | a::r,n,x,y,hx,hy,e=>by
  rw [List.map_cons,List.nodup_cons] at n
  rcases List.mem_cons.mp hx with ex | ux <;> rcases List.mem_cons.mp hy with ey | uy
  ·rw [ex,ey]
  ·rw [ex] at e
   exact absurd (List.mem_map.mpr ⟨y,uy,e.symm⟩) n.1
  ·rw [ey] at e
   exact absurd (List.mem_map.mpr ⟨x,ux,e⟩) n.1
  ·exact pk n.2 ux uy e
theorem kr{α:Type}{nm:α→Str}{G:α→V→Prop}{l:List α}{i:Nat}{t:α}{kvs:List (Key×V)}{v:V}(nd:(l.map nm).Nodup)(ht:l[i]? = some t)(h:∀ u∈l.take i,∃ y,bo kvs (.inr (nm u))=some y∧G u y)(g:G t v):
  ∀ u∈l.take (i+1),∃ y,bo (putK kvs (.inr (nm t)) v) (.inr (nm u))=some y∧G u y:=fun u hu=>by
 rw [ir]
 by_cases e:nm u=nm t
 ·have : u=t:=pk nd (List.mem_of_mem_take hu) (List.mem_of_getElem? ht) e
  subst this
  exact⟨v,by rw [if_pos rfl],g⟩
 ·rw [if_neg (fun z=>e (Sum.inr.inj z))]
  rw [List.take_succ,ht] at hu
  rcases List.mem_append.mp hu with hu | hu
  ·exact h u hu
  ·have : u=t:=(Option.some.inj (Option.mem_toList.mp hu)).symm
   exact absurd (by rw [this]) e
theorem wJ{K:PySem.W.Frag}{σ:St}{H:Hp}{l:Addr}{tv:List V}{ts:List ar}{Q:VK}(hl:H l=some (.lst tv))(rt:RdA Any H tv (ts.map dG))(nd:(ts.map (·.nm)).Nodup)(h8:ts.length≤8)
  (hQ:∀ D kvs,H D=none→(∀ t∈ts,∃ y,bo kvs (.inr t.nm)=some y∧∃ q,y=.ref q∧H q=some (.tup (t.ps.map V.str)))→Q (.ref D) (upd H D (.dK kvs))):eV 2 (Itl K l) (qJ K 2 (cW (aV 0) (cW (aV 1) qK))) (cT 0) (cT 1) σ H Q:=by
 have tl:tv.length=ts.length:=by rw [rt.length,List.length_map]
 refine fK (a:=l) (xs:=tv) (Nat.le_trans (show tv.length≤8 by omega) (by decide)) (fun i kvs H2=>H2=H∧kvs.length≤i∧∀ t∈ts.take i,∃ y,bo kvs (.inr t.nm)=some y∧∃ q,y=.ref q∧H q=some (.tup (t.ps.map V.str))) ⟨rfl,Nat.le_refl _,fun _ z=>nomatch z⟩ (fun i kvs H2 _ ⟨e,n,_⟩=>⟨by rw [e]; exact SqL.of hl,n⟩) ?_ ?_
 ·rintro R i y kvs H2 vs hv hy ⟨rfl,hn,hk⟩ fin
  obtain⟨v0,v1,rfl⟩:∃ v0 v1,vs=[v0,v1]:=by
   match vs,hv with
   | [a,b],_=>exact⟨a,b,rfl⟩
  obtain⟨d,hd,rd⟩:=rt.getV hy
  rw [List.getElem?_map] at hd
  obtain⟨t,ht,rfl⟩:=Option.map_eq_some_iff.mp hd
  obtain⟨py,px,rfl,_,hpy,hpx⟩:=RdV.tuple_inv rd
  obtain⟨a1,a2,rfl,r1,r2⟩:=hpx.two
  obtain rfl:=r1.str_inv
  obtain⟨pp,ppx,rfl,_,hpp,hps⟩:=r2.tuple_inv
  obtain rfl:=hps.strs_inv
  refine⟨py,_,rfl,SqT.of hpy,rfl,_,_,rfl,_,_,rfl,rfl,?_⟩
  refine⟨_,rfl,_,rfl,.inr t.nm,rfl,fin [some (.str t.nm),some (.ref pp)] _ _ rfl ⟨rfl,Nat.le_trans (bg _ _ _) (by omega),kr (nm:=ar.nm) (G:=fun t y=>∃ q,y=.ref q∧H2 q=some (.tup (t.ps.map V.str))) nd ht hk ⟨pp,rfl,hpp⟩⟩⟩
 ·rintro kvs H2 ⟨rfl,_,hk⟩ D hD
  rw [tl,List.take_length] at hk
  exact hQ D kvs hD hk
theorem wK{K:PySem.W.Frag}{σ:St}{H:Hp}{l:Addr}{tv:List V}{ts:List aq}{Q:VK}(hl:H l=some (.lst tv))(rt:RdA Any H tv (ts.map dO))(nd:(ts.map (·.nm)).Nodup)(h8:ts.length≤8)
  (hQ:∀ D kvs,H D=none→(∀ t∈ts,∃ y,bo kvs (.inr t.nm)=some y∧∃ q,y=.ref q∧H q=some (.tup (t.ps.map V.str)))→Q (.ref D) (upd H D (.dK kvs))):eV 3 (Itl K l) (qJ K 3 (cW (aV 0) (cW (aV 1) (cW (aV 2) qK)))) (cT 0) (cT 1) σ H Q:=by
 have tl:tv.length=ts.length:=by rw [rt.length,List.length_map]
 refine fK (a:=l) (xs:=tv) (Nat.le_trans (show tv.length≤8 by omega) (by decide)) (fun i kvs H2=>H2=H∧kvs.length≤i∧∀ t∈ts.take i,∃ y,bo kvs (.inr t.nm)=some y∧∃ q,y=.ref q∧H q=some (.tup (t.ps.map V.str))) ⟨rfl,Nat.le_refl _,fun _ z=>nomatch z⟩ (fun i kvs H2 _ ⟨e,n,_⟩=>⟨by rw [e]; exact SqL.of hl,n⟩) ?_ ?_
 ·rintro R i y kvs H2 vs hv hy ⟨rfl,hn,hk⟩ fin
  obtain⟨v0,v1,v2,rfl⟩:∃ v0 v1 v2,vs=[v0,v1,v2]:=by
   match vs,hv with
   | [a,b,c],_=>exact⟨a,b,c,rfl⟩
  obtain⟨d,hd,rd⟩:=rt.getV hy
  rw [List.getElem?_map] at hd
  obtain⟨t,ht,rfl⟩:=Option.map_eq_some_iff.mp hd
  obtain⟨py,px,rfl,_,hpy,hpx⟩:=RdV.tuple_inv rd
  obtain⟨a1,a2,a3,rfl,r1,r2,r3⟩:=hpx.three
  obtain rfl:=r1.str_inv
  obtain rfl:=r3.str_inv
  obtain⟨pp,ppx,rfl,_,hpp,hps⟩:=r2.tuple_inv
  obtain rfl:=hps.strs_inv
  refine⟨py,_,rfl,SqT.of hpy,rfl,_,_,rfl,_,_,rfl,_,_,rfl,rfl,?_⟩
  refine⟨_,rfl,_,rfl,.inr t.nm,rfl,fin [some (.str t.nm),some (.ref pp),some (.str t.kd)] _ _ rfl ⟨rfl,Nat.le_trans (bg _ _ _) (by omega),kr (nm:=aq.nm) (G:=fun t y=>∃ q,y=.ref q∧H2 q=some (.tup (t.ps.map V.str))) nd ht hk ⟨pp,rfl,hpp⟩⟩⟩
 ·rintro kvs H2 ⟨rfl,_,hk⟩ D hD
  rw [tl,List.take_length] at hk
  exact hQ D kvs hD hk
theorem wM{K:PySem.W.Frag}{σ:St}{H:Hp}{l:Addr}{tv:List V}{ts:List aq}{Q:VK}(hl:H l=some (.lst tv))(rt:RdA Any H tv (ts.map dO))(nd:(ts.map (·.nm)).Nodup)(h8:ts.length≤8)
  (hQ:∀ D kvs,H D=none→(∀ t∈ts,∃ y,bo kvs (.inr t.nm)=some y∧y=.str t.kd)→Q (.ref D) (upd H D (.dK kvs))):eV 3 (Itl K l) (qJ K 3 (cW (aV 0) (cW (aV 1) (cW (aV 2) qK)))) (cT 0) (cT 2) σ H Q:=by
 have tl:tv.length=ts.length:=by rw [rt.length,List.length_map]
 refine fK (a:=l) (xs:=tv) (Nat.le_trans (show tv.length≤8 by omega) (by decide)) (fun i kvs H2=>H2=H∧kvs.length≤i∧∀ t∈ts.take i,∃ y,bo kvs (.inr t.nm)=some y∧y=.str t.kd) ⟨rfl,Nat.le_refl _,fun _ z=>nomatch z⟩ (fun i kvs H2 _ ⟨e,n,_⟩=>⟨by rw [e]; exact SqL.of hl,n⟩) ?_ ?_
 ·rintro R i y kvs H2 vs hv hy ⟨rfl,hn,hk⟩ fin
  obtain⟨v0,v1,v2,rfl⟩:∃ v0 v1 v2,vs=[v0,v1,v2]:=by
   match vs,hv with
   | [a,b,c],_=>exact⟨a,b,c,rfl⟩
  obtain⟨d,hd,rd⟩:=rt.getV hy
  rw [List.getElem?_map] at hd
  obtain⟨t,ht,rfl⟩:=Option.map_eq_some_iff.mp hd
  obtain⟨py,px,rfl,_,hpy,hpx⟩:=RdV.tuple_inv rd
  obtain⟨a1,a2,a3,rfl,r1,r2,r3⟩:=hpx.three
  obtain rfl:=r1.str_inv
  obtain rfl:=r3.str_inv
  refine⟨py,_,rfl,SqT.of hpy,rfl,_,_,rfl,_,_,rfl,_,_,rfl,rfl,?_⟩
  refine⟨_,rfl,_,rfl,.inr t.nm,rfl,fin [some (.str t.nm),some a2,some (.str t.kd)] _ _ rfl ⟨rfl,Nat.le_trans (bg _ _ _) (by omega),kr (nm:=aq.nm) (G:=fun t y=>y=.str t.kd) nd ht hk rfl⟩⟩
 ·rintro kvs H2 ⟨rfl,_,hk⟩ D hD
  rw [tl,List.take_length] at hk
  exact hQ D kvs hD hk
theorem wH(a:Addr):(fa1 a).length<1000:=Nat.lt_of_le_of_lt (ay _ _ _) (by decide)
theorem wG(a b:Addr):(fa2 a b).length<1000:=by
 have h1:=ay (Str.ofString "known_kinds") (.ref a) []
 have h2:=ay (Str.ofString "tie_places") (.ref b) (fa1 a)
 show (putF (Str.ofString "tie_places") (.ref b) (fa1 a)).length<1000
 have h3:(fa1 a).length≤1:=h1
 omega
theorem wF(a b c:Addr):(fa3 a b c).length<1000:=by
 have h1:(fa1 a).length≤1:=ay (Str.ofString "known_kinds") (.ref a) []
 have h2:(fa2 a b).length≤(fa1 a).length+1:=ay (Str.ofString "tie_places") (.ref b) (fa1 a)
 have h3:(fa3 a b c).length≤(fa2 a b).length+1:=ay (Str.ofString "function_places") (.ref c) (fa2 a b)
 omega
section
abbrev bC:Stmt:=cF (top 12) 0
theorem zb2:ak ["self","signs"] ["self","signs"] (af bC):=by walk_at "F"
inductive spTabInitI(C:Addr)(CT:Addr)(vs:List V)(H:Hp)(Q:VK):Prop where
 | mk:∀ (x dx g:Addr) (ks:List Str) (ts:List ar) (fs:List aq),vs=[.ref x,.ref g]→H x=some (.ins CT dx [])→aH C H g ks ts fs→au ks ts fs→(∀ H',gq CT H' x ks ts fs→ax x H H'→Q .non H')→spTabInitI C CT vs H Q
def jv(C CT:Addr):Sp:=fun vs H Q _=>spTabInitI C CT vs H Q
theorem nI{f C CT f1 f2 f3:Addr}{fd fd1 fd2 fd3:FuncData}(F:Fun K "__init__" "SignTable.__init__" bC f fd)(Z:Bl mg)(T:ClS K C)(TT:ClT K CT)
  (m_kinds:fQ K C "kinds" f1) (G_kinds:aZ P w K mg base CX0 1 f1 fd1 ["self"] (ij C)) (b_kinds:aU K fd1 ["self"] [])
  (m_ties:fQ K C "ties" f2) (G_ties:aZ P w K mg base CX0 1 f2 fd2 ["self"] (ii C)) (b_ties:aU K fd2 ["self"] [])
  (m_functions:fQ K C "functions" f3) (G_functions:aZ P w K mg base CX0 1 f3 fd3 ["self"] (ik C)) (b_functions:aU K fd3 ["self"] []) :
  aZ P w K mg base CX0 2 f fd ["self","signs"] (jv C CT):=by
 have SC:=zb2
 refine F.ok zb2 (fun vs H Q E h=>?_) (fun cdv A outer s H vs Q E hr h=>?_)
 ·obtain⟨x,dx,g,ks,ts,fs,rfl,_⟩:=h
  rfl
 ·obtain⟨x,dx,g,ks,ts,fs,rfl,hx,hS,ok,q⟩:=h
  refine'⟨_,?derivation,?_⟩
  case derivation=>(have:=aT 27 26 73 2 ["name","places","self","signs"]; have:=aT 28 31 89 3 ["name","places","kind","self","signs"]; have:=aT 29 30 86 3 ["name","places","kind","self","signs"]; walk_at "S2")
  obtain⟨dg,_,_,_,_,_,g2,_⟩:=id hS
  have gx:g≠x:=by rintro rfl; rw [hx] at g2; cases g2
  have sl:=ok.sl
  have nd:=List.nodup_append.mp ok.sn
  have tx:∀ {G:Hp} {c:Addr} {o:HO},G x=some (.ins CT dx [])∨(∃ fl,G x=some (.ins CT dx fl))→cP G (upd G x o):=fun {G c o} h p xs e=>by
   rw [ad (fun z=>by rcases h with h | ⟨fl,h⟩ <;> (rw [z,h] at e; cases e))]; exact e
  refine⟨_,rfl,g,dg,_,rfl,g2,iQ,g,ks,ts,fs,rfl,hS,fun a ha=>?_⟩
  have s1:=ac ha (.lst (ks.map V.str))
  refine⟨_,rfl,x,CT,dx,_,rfl,s1 _ _ hx,TT.cl,TT.n1,by decide,?_⟩
  have nax:a≠x:=by rintro rfl; rw [hx] at ha; cases ha
  have S1:ax x H (upd (upd H a (.lst (ks.map V.str))) x (.ins CT dx (putF "known_kinds" (.ref a) []))):=s1.x.trans (ax.upd _ _ _)
  have a1:(upd (upd H a (.lst (ks.map V.str))) x (.ins CT dx (putF "known_kinds" (.ref a) []))) a=some (.lst (ks.map V.str)):=by rw [ad nax]; exact aa
  have x1:(upd (upd H a (.lst (ks.map V.str))) x (.ins CT dx (putF "known_kinds" (.ref a) []))) x=some (.ins CT dx (fa1 a)):=aa
  have gS1:aH C (upd (upd H a (.lst (ks.map V.str))) x (.ins CT dx (putF "known_kinds" (.ref a) []))) g ks ts fs:=(hS.same s1).keep (fun o e=>ax.upd x _ _ g o gx e) (tx (c:=a) (.inl (s1 _ _ hx)))
  generalize (upd (upd H a (.lst (ks.map V.str))) x (.ins CT dx (putF "known_kinds" (.ref a) [])))=H1 at S1 a1 x1 gS1
  obtain⟨dg1,_,_,_,_,_,g21,_⟩:=id gS1
  refine⟨_,rfl,g,dg1,_,rfl,g21,kG,g,ks,ts,fs,rfl,gS1,fun l tv hl rt=>⟨l,rfl,⟨_,SqL.of aa⟩,?_⟩⟩
  intro cl C1 ex s0 Hc
  refine wJ (K:=K) aa (rt.same (ac hl _)) nd.1 (by omega) fun b tp hb hk=>?_
  have s2:=(ac hl (.lst tv)).trans (ac hb (.dK tp))
  have b2:(upd (upd H1 l (.lst tv)) b (.dK tp)) b=some (.dK tp):=aa
  have hk2:∀ t∈ts,∃ q,bo tp (.inr t.nm)=some (.ref q)∧(upd (upd H1 l (.lst tv)) b (.dK tp)) q=some (.tup (t.ps.map V.str)):=fun t ht=>by
   obtain⟨y,e1,q',rfl,e2⟩:=hk t ht
   exact⟨q',e1,ac hb _ _ _ e2⟩
  generalize (upd (upd H1 l (.lst tv)) b (.dK tp))=G2 at s2 b2 hk2
  refine⟨_,rfl,x,CT,dx,_,rfl,s2 _ _ x1,TT.cl,TT.n2,wH _,?_⟩
  have nbx:b≠x:=by rintro rfl; rw [s2 _ _ x1] at b2; cases b2
  have T2:cP G2 (upd G2 x (.ins CT dx (putF "tie_places" (.ref b) (fa1 a)))):=tx (c:=a) (.inr ⟨_,s2 _ _ x1⟩)
  have S2:ax x H1 (upd G2 x (.ins CT dx (putF "tie_places" (.ref b) (fa1 a)))):=s2.x.trans (ax.upd _ _ _)
  have x2:(upd G2 x (.ins CT dx (putF "tie_places" (.ref b) (fa1 a)))) x=some (.ins CT dx (fa2 a b)):=aa
  have b2':(upd G2 x (.ins CT dx (putF "tie_places" (.ref b) (fa1 a)))) b=some (.dK tp):=by rw [ad nbx]; exact b2
  have gS2:aH C (upd G2 x (.ins CT dx (putF "tie_places" (.ref b) (fa1 a)))) g ks ts fs:=(gS1.same s2).keep (fun o e=>ax.upd x _ _ g o gx e) T2
  generalize (upd G2 x (.ins CT dx (putF "tie_places" (.ref b) (fa1 a))))=H2 at T2 S2 x2 b2' gS2
  obtain⟨dg2,_,_,_,_,_,g22,_⟩:=id gS2
  refine⟨_,rfl,g,dg2,_,rfl,g22,cE,g,ks,ts,fs,rfl,gS2,fun l3 fv hl3 rf=>⟨l3,rfl,⟨_,SqL.of aa⟩,?_⟩⟩
  intro cl C1 ex s0 Hc
  refine wK (K:=K) aa (rf.same (ac hl3 _)) nd.2.1 (by omega) fun c fp hc hk3=>?_
  have s3:=(ac hl3 (.lst fv)).trans (ac hc (.dK fp))
  have c3:(upd (upd H2 l3 (.lst fv)) c (.dK fp)) c=some (.dK fp):=aa
  have hk3':∀ t∈fs,∃ q,bo fp (.inr t.nm)=some (.ref q)∧(upd (upd H2 l3 (.lst fv)) c (.dK fp)) q=some (.tup (t.ps.map V.str)):=fun t ht=>by
   obtain⟨y,e1,q',rfl,e2⟩:=hk3 t ht
   exact⟨q',e1,ac hc _ _ _ e2⟩
  generalize (upd (upd H2 l3 (.lst fv)) c (.dK fp))=G3 at s3 c3 hk3'
  refine⟨_,rfl,x,CT,dx,_,rfl,s3 _ _ x2,TT.cl,TT.n3,wG _ _,?_⟩
  have ncx:c≠x:=by rintro rfl; rw [s3 _ _ x2] at c3; cases c3
  have T3:cP G3 (upd G3 x (.ins CT dx (putF "function_places" (.ref c) (fa2 a b)))):=tx (c:=a) (.inr ⟨_,s3 _ _ x2⟩)
  have S3:ax x H2 (upd G3 x (.ins CT dx (putF "function_places" (.ref c) (fa2 a b)))):=s3.x.trans (ax.upd _ _ _)
  have x3:(upd G3 x (.ins CT dx (putF "function_places" (.ref c) (fa2 a b)))) x=some (.ins CT dx (fa3 a b c)):=aa
  have c3':(upd G3 x (.ins CT dx (putF "function_places" (.ref c) (fa2 a b)))) c=some (.dK fp):=by rw [ad ncx]; exact c3
  have gS3:aH C (upd G3 x (.ins CT dx (putF "function_places" (.ref c) (fa2 a b)))) g ks ts fs:=(gS2.same s3).keep (fun o e=>ax.upd x _ _ g o gx e) T3
  generalize (upd G3 x (.ins CT dx (putF "function_places" (.ref c) (fa2 a b))))=H3 at T3 S3 x3 c3' gS3
  obtain⟨dg3,_,_,_,_,_,g23,_⟩:=id gS3
  refine⟨_,rfl,g,dg3,_,rfl,g23,cE,g,ks,ts,fs,rfl,gS3,fun l4 fv4 hl4 rf4=>⟨l4,rfl,⟨_,SqL.of aa⟩,?_⟩⟩
  intro cl C1 ex s0 Hc
  refine wM (K:=K) aa (rf4.same (ac hl4 _)) nd.2.1 (by omega) fun d fk hd hk4=>?_
  have s4:=(ac hl4 (.lst fv4)).trans (ac hd (.dK fk))
  have d4:(upd (upd H3 l4 (.lst fv4)) d (.dK fk)) d=some (.dK fk):=aa
  generalize (upd (upd H3 l4 (.lst fv4)) d (.dK fk))=G4 at s4 d4
  refine⟨_,rfl,x,CT,dx,_,rfl,s4 _ _ x3,TT.cl,TT.n4,wF _ _ _,?_⟩
  have ndx:d≠x:=by rintro rfl; rw [s4 _ _ x3] at d4; cases d4
  have T4:cP G4 (upd G4 x (.ins CT dx (putF "function_kinds" (.ref d) (fa3 a b c)))):=tx (c:=a) (.inr ⟨_,s4 _ _ x3⟩)
  have S4:ax x H3 (upd G4 x (.ins CT dx (putF "function_kinds" (.ref d) (fa3 a b c)))):=s4.x.trans (ax.upd _ _ _)
  have T34:cP H3 (upd G4 x (.ins CT dx (putF "function_kinds" (.ref d) (fa3 a b c)))):=fun p xs e=>T4 p xs (s4 _ _ e)
  have T24:cP H2 (upd G4 x (.ins CT dx (putF "function_kinds" (.ref d) (fa3 a b c)))):=fun p xs e=>T34 p xs (T3 p xs (s3 _ _ e))
  refine q _ ⟨dx,a,b,c,d,tp,fp,fk,aa,S4 _ _ nax (S3 _ _ nax (S2 _ _ nax a1)),S4 _ _ nbx (S3 _ _ nbx b2'),S4 _ _ ncx c3',by rw [ad ndx]; exact d4,fun t ht=>?_,fun t ht=>?_,fun t ht=>?_⟩ (S1.trans (S2.trans (S3.trans S4)))
  ·obtain⟨q',e1,e2⟩:=hk2 t ht
   exact⟨q',e1,T24 _ _ (T2 _ _ e2)⟩
  ·obtain⟨q',e1,e2⟩:=hk3' t ht
   exact⟨q',e1,T34 _ _ (T3 _ _ e2)⟩
  ·obtain⟨y,e1,rfl⟩:=hk4 t ht
   exact e1
end
mutual
def wr:Tr→Str
 | .leaf x=>x
 | .node ts=>(("(":Str)++Str.join " " (wrA ts))++")"
def wrA:List Tr→List Str
 | []=>[]
 | t::ts=>wr t::wrA ts
end
theorem rj:∀ ts:List Tr,wrA ts=ts.map wr
 | []=>by rw [wrA]; rfl
 | t::ts=>by rw [wrA,rj ts]; rfl
theorem bj(a b:Str):(a++b).length=a.length+b.length:=by
 show (a.cps++b.cps).size=a.cps.size+b.cps.size
 simp
theorem dB:∀ ts:List Str,(ts.map (·.length)).sum+ts.length≤(Str.join " " ts).length+1
 | []=>by simp
 | [x]=>by
  show x.length+0+1≤x.length+1
  omega
 | x::y::r=>by
  have ih:=dB (y::r)
  have e:(Str.join " " (x::y::r)).length=x.length+1+(Str.join " " (y::r)).length:=by
   show (x++(" ":Str)++Str.join " " (y::r)).length=_
   rw [bj,bj]; rfl
  rw [e,List.map_cons,List.sum_cons,List.length_cons]
  omega
theorem ie(ts:List Tr):wr (.node ts)=(("(":Str)++Str.join " " (ts.map wr))++")":=by rw [wr,rj]
theorem j1(ts:List Tr):(wr (.node ts)).length=(Str.join " " (ts.map wr)).length+2:=by
 rw [ie,bj,bj]
 show 1+_+1=_
 omega
theorem aQ.get{H:Hp}:∀ {v:List V} {t:List Tr} {i:Nat} {x:V},aQ H v t→v[i]? = some x→∃ y,t[i]? = some y∧Tup H x y
 | _,_,_,_,.nil,h=>by simp at h
 | _,_,0,_,.cons a _,h=>by simp at h; subst h; exact⟨_,rfl,a⟩
 | _,_,i+1,_,.cons _ r,h=>by simpa using aQ.get (i:=i) r (by simpa using h)
section
abbrev dz:Stmt:=top 23
theorem zb3:ak ["thing"] ["thing"] (af dz):=by walk_at "F"
inductive spWrI(n:Nat)(vs:List V)(H:Hp)(Q:VK):Prop where
 | mk:∀ (v:V) (t:Tr),vs=[v]→Tup H v t→dep t≤n→(wr t).length≤1000000→(∀ H',Same H H'→Q (.str (wr t)) H')→spWrI n vs H Q
def j6(n:Nat):Sp:=fun vs H Q _=>spWrI n vs H Q
def ju:Nat→Sp
 | 0=>fun _ _ _ _=>False
 | n+1=>j6 n
theorem lh{m:Nat}{vs:List V}{H:Hp}{Q:VK}{E:XK}(h:j6 m vs H Q E):ju (m+1) vs H Q E:=h
theorem lN(F:am K mg "written" dz ["thing"])(Z:Bl mg)(n:Nat)(D_written:Def P w K mg base "written" (n+1) ["thing"] (ju n)):Def P w K mg base "written" (n+2) ["thing"] (j6 n):=by
 have SC:=zb3
 refine F.mk' (k:=n+1) zb3 (fun vs H Q E h=>?_) (fun f cdv A outer s H vs Q E hr h=>?_)
 ·obtain⟨v,t,rfl,_⟩:=h
  rfl
 ·obtain⟨v,t,rfl,ht,hn,hw,q⟩:=h
  refine'⟨_,?derivation,?_⟩
  case derivation=>(have:=aj 5 96 7 29; have:=aj 2 98 11 66; have:=aj 2 98 11 60; have:=aj 1 98 17 60; have:=aT 98 26 59 1 ["part","thing"]; have:=aj 11 98 53 58; walk_at "S2")
  cases ht with
  | leaf x=>exact⟨_,rfl,_,_,_,rfl,.str _,bX K,true,rfl,ifT rfl ⟨_,rfl,by have:=q H (Same.refl _); rwa [wr] at this⟩⟩
  | node h r=>
   rename_i a xs ts
   have hd:dep (.node ts)=1+dE ts:=rfl
   rw [hd] at hn
   obtain⟨m,rfl⟩:∃ m,n=m+1:=⟨n-1,by omega⟩
   rw [j1] at hw
   have js:=dB (ts.map wr)
   rw [List.length_map] at js
   have rl:=r.length
   refine⟨_,rfl,_,_,false,rfl,.tup h,rfl,false,rfl,bI ?_⟩
   refine⟨rfl,?_⟩
   refine(show LT H a xs from .inr h).over rfl fun J O=>?_
   intro cl C1 ex s0 H0
   refine O.comp (fun i ys H4=>ys=((ts.map wr).take i).map V.str∧Same H H4) ⟨rfl,Same.refl _⟩ (Nat.le_trans (show xs.length≤1000001 by omega) (by decide)) (fun i ys H4 _ ⟨_,z⟩ o e=>z _ _ e) ?_ ?_
   ·rintro i y ys H4 hi hy ⟨rfl,s4⟩
    obtain⟨t,ht,tt⟩:=r.get hi
    have dt:=bY (List.mem_of_getElem? ht)
    have lt:=join_mem_le " " (ts.map wr) (wr t) (List.mem_map.mpr ⟨t,List.mem_of_getElem? ht,rfl⟩)
    refine⟨_,rfl,?_⟩
    unfold e7
    refine lh ⟨y,t,rfl,aX (Same.tups s4) tt,by omega,by omega,fun H5 s5=>⟨?_,s4.trans s5⟩⟩
    rw [List.take_succ,List.getElem?_map,ht]
    exact(List.map_append (l₂:=[wr t])).symm
   ·rintro ys H4 hy ⟨rfl,s4⟩ D hD
    have el:(ts.map wr).take xs.length=ts.map wr:=List.take_of_length_le (by rw [List.length_map]; omega)
    rw [el]
    refine⟨_,D,ts.map wr,rfl,rfl,SqL.of aa,PyProof.Rows.joinOk_of_weight (by rw [List.length_map]; omega) (by decide),?_⟩
    have l1:("(":Str).length=1:=rfl
    have l2:(")":Str).length=1:=rfl
    refine⟨_,_,rfl,rfl,Nat.le_trans (show ("(":Str).length+_≤1000002 by omega) (by decide),?_⟩
    refine⟨_,_,rfl,rfl,Nat.le_trans (show _+(")":Str).length≤1000004 by rw [bj]; omega) (by decide),?_⟩
    rw [← ie]
    exact q _ (s4.trans (ac hD _))
theorem ym(F:am K mg "written" dz ["thing"]):Def P w K mg base "written" 1 ["thing"] (ju 0):=
 F.mk' (k:=0) zb3 (fun vs H Q E h=>False.elim h) fun f cdv A outer s H vs Q E hr h=>False.elim h
theorem xm(F:am K mg "written" dz ["thing"])(Z:Bl mg):∀ n,Def P w K mg base "written" (n+2) ["thing"] (j6 n)
 | 0=>lN F Z 0 (ym F)
 | n+1=>lN F Z (n+1) (xm F Z n)
end
def gB(d:Nat):List Nat:=if d=40 then [32,40,32] else if d=41 then [32,41,32] else [d]
theorem iI(x:Str):(Txt.replace (Txt.replace x "(" " ( ") ")" " ) ").cps.toList=x.cps.toList.flatMap gB:=by
 rw [show (")":Str)=⟨#[41]⟩ from rfl,gb,show ("(":Str)=⟨#[40]⟩ from rfl,gb,List.flatMap_assoc]
 congr 1
 funext d
 unfold gB
 by_cases h:d=40
 ·rw [if_pos h,if_pos h]; rfl
 ·rw [if_neg h,if_neg h,List.flatMap_cons,List.flatMap_nil,List.append_nil]
  by_cases h2:d=41
  ·rw [if_pos h2,if_pos h2]; rfl
  ·rw [if_neg h2,if_neg h2]
mutual
def wd:Tr→List Str
 | .leaf x=>[x]
 | .node ts=>Str.empty::("(":Str)::(wdA ts++[(")":Str),Str.empty])
def wdA:List Tr→List Str
 | []=>[]
 | t::ts=>wd t++wdA ts
end
mutual
def OkT:Tr→Prop
 | .leaf x=>x≠Str.empty∧∀ c∈x.cps.toList,c≠32∧c≠40∧c≠41
 | .node ts=>ts≠[]∧OkA ts
def OkA:List Tr→Prop
 | []=>True
 | t::ts=>OkT t∧OkA ts
end
theorem cr:∀ {A B:List Str},A≠[]→B≠[]→(Str.join " " (A++B)).cps.toList=(Str.join " " A).cps.toList++32::(Str.join " " B).cps.toList
 | [],_,h,_=>absurd rfl h
 | [x],b::B,_,_=>bz 32 x b B
 | x::y::r,B,_,hB=>by
  have e:=bz 32 x y (r++B)
  have e2:=bz 32 x y r
  have ih:=cr (A:=y::r) (B:=B) (by simp) hB
  show (Str.join ⟨#[32]⟩ (x::y::(r++B))).cps.toList=_
  rw [e]
  show x.cps.toList++32::(Str.join " " (y::r++B)).cps.toList=(Str.join ⟨#[32]⟩ (x::y::r)).cps.toList++_
  rw [ih,e2,List.append_assoc]
  rfl
 | [x],[],_,h=>absurd rfl h
theorem jK:∀ {l:List Nat},(∀ c∈l,c≠32∧c≠40∧c≠41)→l.flatMap gB=l
 | [],_=>rfl
 | d::r,h=>by
  obtain⟨_,h1,h2⟩:=h d List.mem_cons_self
  rw [List.flatMap_cons,jK (fun c hc=>h c (List.mem_cons_of_mem _ hc))]
  unfold gB
  rw [if_neg h1,if_neg h2]
  rfl
theorem oF:∀ t:Tr,wd t≠[]
 | .leaf x=>by rw [wd]; simp
 | .node ts=>by rw [wd]; simp
mutual
theorem fU:∀ t:Tr,OkT t→(wr t).cps.toList.flatMap gB=(Str.join " " (wd t)).cps.toList
 | .leaf x,h=>by
  rw [OkT] at h
  rw [wr,wd]
  exact jK h.2
 | .node ts,h=>by
  rw [OkT] at h
  have ih:=kW ts h.1 h.2
  rw [wr,wd,eQ,eQ,List.flatMap_append,List.flatMap_append,ih.1]
  have e1:("(":Str).cps.toList.flatMap gB=[32,40,32]:=rfl
  have e2:(")":Str).cps.toList.flatMap gB=[32,41,32]:=rfl
  rw [e1,e2]
  have s1:(Str.join " " (Str.empty::("(":Str)::(wdA ts++[(")":Str),Str.empty]))).cps.toList=32::(Str.join " " (("(":Str)::(wdA ts++[(")":Str),Str.empty]))).cps.toList:=bz 32 Str.empty ("(":Str) _
  have s2:(Str.join " " ([("(":Str)]++(wdA ts++[(")":Str),Str.empty]))).cps.toList=_:=cr (A:=[("(":Str)]) (B:=wdA ts++[(")":Str),Str.empty]) (by simp) (by simp)
  have s3:=cr (A:=wdA ts) (B:=[(")":Str),Str.empty]) ih.2 (by simp)
  rw [s1]
  show _=32::(Str.join " " ([("(":Str)]++(wdA ts++[(")":Str),Str.empty]))).cps.toList
  rw [s2,s3]
  have s4:(Str.join " " [("(":Str)]).cps.toList=[40]:=rfl
  have s5:(Str.join " " [(")":Str),Str.empty]).cps.toList=[41,32]:=rfl
  rw [s4,s5]
  simp
theorem kW:∀ ts:List Tr,ts≠[]→OkA ts→(Str.join " " (wrA ts)).cps.toList.flatMap gB=(Str.join " " (wdA ts)).cps.toList∧wdA ts≠[]
 | [],h,_=>absurd rfl h
 | [t],_,h=>by
  rw [OkA] at h
  rw [wrA,wrA,wdA,wdA,List.append_nil]
  exact⟨fU t h.1,oF t⟩
 | t::u::r,_,h=>by
  rw [OkA] at h
  have ih:=kW (u::r) (by simp) h.2
  have i1:=fU t h.1
  rw [wdA]
  refine⟨?_,by simp [oF t]⟩
  rw [cr (oF t) ih.2,← ih.1,← i1]
  rw [wrA]
  have e:(Str.join " " (wr t::wrA (u::r))).cps.toList=(wr t).cps.toList++32::(Str.join " " (wrA (u::r))).cps.toList:=by
   rw [wrA]; exact bz 32 _ _ _
  rw [e,List.flatMap_append,List.flatMap_cons]
  rfl
end
mutual
theorem oG:∀ t:Tr,OkT t→∀ p∈wd t,32∉p.cps.toList
 | .leaf x,h,p,hp=>by
  rw [OkT] at h
  rw [wd] at hp
  rw [List.mem_singleton.mp hp]
  exact fun z=>(h.2 32 z).1 rfl
 | .node ts,h,p,hp=>by
  rw [OkT] at h
  rw [wd] at hp
  rcases List.mem_cons.mp hp with rfl | hp
  ·exact fun z=>nomatch z
  ·rcases List.mem_cons.mp hp with rfl | hp
   ·decide
   ·rcases List.mem_append.mp hp with hp | hp
    ·exact kX ts h.2 p hp
    ·rcases List.mem_cons.mp hp with rfl | hp
     ·decide
     ·rw [List.mem_singleton.mp hp]
      exact fun z=>nomatch z
theorem kX:∀ ts:List Tr,OkA ts→∀ p∈wdA ts,32∉p.cps.toList
 | [],_,p,hp=>by rw [wdA] at hp; nomatch hp
 | t::ts,h,p,hp=>by
  rw [OkA] at h
  rw [wdA] at hp
  rcases List.mem_append.mp hp with hp | hp
  ·exact oG t h.1 p hp
  ·exact kX ts h.2 p hp
end
theorem kU{t:Tr}(h:OkT t):Txt.split (Txt.replace (Txt.replace (wr t) "(" " ( ") ")" " ) ") " "=wd t:=by
 have e:Txt.replace (Txt.replace (wr t) "(" " ( ") ")" " ) "=Str.join " " (wd t):=gt ((iI _).trans (fU t h))
 rw [e]
 exact fc 32 (oF t) (oG t h)
def stp(st:List (List Tr))(w:Str):Option (List (List Tr)):=
 if w="(" then some ([]::st) else if w=")" then (match st with | r::q::rest=>some ((q++[.node r])::rest) | _=>none) else if w=Str.empty then some st else (match st with | r::rest=>some ((r++[.leaf w])::rest) | []=>none)
def run:List Str→List (List Tr)→Option (List (List Tr))
 | [],st=>some st
 | w::ws,st=>(stp st w).bind (run ws)
theorem ko:∀ (a b:List Str) (st:List (List Tr)),run (a++b) st=(run a st).bind (run b)
 | [],_,_=>rfl
 | w::a,b,st=>by
  show (stp st w).bind (run (a++b))=((stp st w).bind (run a)).bind (run b)
  cases stp st w with
  | none=>rfl
  | some s=>exact ko a b s
theorem xt:¬ ((Str.empty:Str)="("):=by decide +kernel
theorem xr:¬ ((Str.empty:Str)=")"):=by decide +kernel
theorem zH:¬ ((")":Str)="("):=by decide +kernel
theorem wu{x:Str}(h:∀ c∈x.cps.toList,c≠32∧c≠40∧c≠41):x≠"("∧x≠")":=
 ⟨fun e=>(h 40 (by rw [e]; decide)).2.1 rfl,fun e=>(h 41 (by rw [e]; decide)).2.2 rfl⟩
mutual
theorem so:∀ (t:Tr),OkT t→∀ (r:List Tr) (rs:List (List Tr)),run (wd t) (r::rs)=some ((r++[t])::rs)
 | .leaf x,h,r,rs=>by
  rw [OkT] at h
  obtain⟨h1,h2⟩:=wu h.2
  rw [wd]
  show (stp (r::rs) x).bind (run [])=_
  unfold stp
  rw [if_neg h1,if_neg h2,if_neg h.1]
  rfl
 | .node ts,h,r,rs=>by
  rw [OkT] at h
  have ih:=o0 ts h.2 [] (r::rs)
  rw [wd]
  show (stp (r::rs) Str.empty).bind (run _)=_
  have e1:stp (r::rs) Str.empty=some (r::rs):=by unfold stp; rw [if_neg xt,if_neg xr,if_pos rfl]
  rw [e1]
  show (stp (r::rs) "(").bind (run _)=_
  have e2:stp (r::rs) "("=some ([]::r::rs):=by unfold stp; rw [if_pos rfl]
  rw [e2]
  show run (wdA ts++[(")":Str),Str.empty]) ([]::r::rs)=_
  rw [ko,ih]
  show (stp (([]++ts)::r::rs) ")").bind (run [Str.empty])=_
  have e3:stp (([]++ts)::r::rs) ")"=some ((r++[.node ([]++ts)])::rs):=by unfold stp; rw [if_neg zH,if_pos rfl]
  rw [e3]
  show (stp _ Str.empty).bind (run [])=_
  have e4:stp ((r++[.node ([]++ts)])::rs) Str.empty=some ((r++[.node ([]++ts)])::rs):=by unfold stp; rw [if_neg xt,if_neg xr,if_pos rfl]
  rw [e4]
  rfl
theorem o0:∀ (ts:List Tr),OkA ts→∀ (r:List Tr) (rs:List (List Tr)),run (wdA ts) (r::rs)=some ((r++ts)::rs)
 | [],_,r,rs=>by rw [wdA,List.append_nil]; rfl
 | t::ts,h,r,rs=>by
  rw [OkA] at h
  rw [wdA,ko,so t h.1 r rs]
  show run (wdA ts) ((r++[t])::rs)=_
  rw [o0 ts h.2,List.append_assoc]
  rfl
end
theorem lB:∀ {ws:List Str} {st fin:List (List Tr)},run ws st=some fin→∀ {i:Nat} {w:Str},ws[i]? = some w→∃ s s',run (ws.take i) st=some s∧stp s w=some s'∧run (ws.take (i+1)) st=some s'
 | [],_,_,_,_,_,h=>by simp at h
 | w::ws,st,fin,hr,0,v,h=>by
  simp at h
  subst h
  have hr':(stp st w).bind (run ws)=some fin:=hr
  cases e:stp st w with
  | none=>rw [e] at hr'; nomatch hr'
  | some s=>exact⟨st,s,rfl,e,by show (stp st w).bind (run (ws.take 0))=_; rw [e]; rfl⟩
 | w::ws,st,fin,hr,i+1,v,h=>by
  have hr':(stp st w).bind (run ws)=some fin:=hr
  cases e:stp st w with
  | none=>rw [e] at hr'; nomatch hr'
  | some s=>
   rw [e] at hr'
   obtain⟨a,b,h1,h2,h3⟩:=lB (ws:=ws) (st:=s) hr' (i:=i) (w:=v) (by simpa using h)
   exact⟨a,b,by show (stp st w).bind (run (ws.take i))=_; rw [e]; exact h1,h2,by show (stp st w).bind (run (ws.take (i+1)))=_; rw [e]; exact h3⟩
mutual
inductive oA(R:Addr→Prop)(H:Hp):V→Tr→Prop where
 | leaf (x:Str):oA R H (.str x) (.leaf x)
 | node {a:Addr} {xs:List V} {ts:List Tr}:R a→H a=some (.lst xs)→cR R H xs ts→oA R H (.ref a) (.node ts)
inductive cR(R:Addr→Prop)(H:Hp):List V→List Tr→Prop where
 | nil:cR R H [] []
 | cons {x:V} {xs:List V} {t:Tr} {ts:List Tr}:oA R H x t→cR R H xs ts→cR R H (x::xs) (t::ts)
end
mutual
theorem qu{R R':Addr→Prop}{H H':Hp}(k:∀ b o,R b→H b=some o→R' b∧H' b=some o):∀ {v:V} {t:Tr},oA R H v t→oA R' H' v t
 | _,_,.leaf x=>.leaf x
 | _,_,.node r h z=>.node (k _ _ r h).1 (k _ _ r h).2 (ce k z)
theorem ce{R R':Addr→Prop}{H H':Hp}(k:∀ b o,R b→H b=some o→R' b∧H' b=some o):∀ {v:List V} {t:List Tr},cR R H v t→cR R' H' v t
 | _,_,.nil=>.nil
 | _,_,.cons a r=>.cons (qu k a) (ce k r)
end
mutual
theorem mf{R:Addr→Prop}{H:Hp}:∀ {v:V} {t:Tr},oA R H v t→Mix H v t
 | _,_,.leaf x=>.leaf x
 | _,_,.node _ h z=>.node (.inl h) (jI z)
theorem jI{R:Addr→Prop}{H:Hp}:∀ {v:List V} {t:List Tr},cR R H v t→bE H v t
 | _,_,.nil=>.nil
 | _,_,.cons a r=>.cons (mf a) (jI r)
end
theorem cR.length{R:Addr→Prop}{H:Hp}:∀ {v:List V} {t:List Tr},cR R H v t→v.length=t.length
 | _,_,.nil=>rfl
 | _,_,.cons _ r=>by rw [List.length_cons,List.length_cons,cR.length r]
theorem cR.snoc{R:Addr→Prop}{H:Hp}{x:V}{y:Tr}:∀ {v:List V} {t:List Tr},cR R H v t→oA R H x y→cR R H (v++[x]) (t++[y])
 | _,_,.nil,h=>.cons h .nil
 | _,_,.cons a r,h=>.cons a (cR.snoc r h)
def pN(D:Addr)(as:List Addr)(H:Hp)(a:Addr)(ts:List Tr):Prop:=∃ xs,H a=some (.lst xs)∧cR (fun b=>b≠D∧b∉as) H xs ts
structure cQ(H0 H:Hp)(D:Addr)(as:List Addr)(st:List (List Tr)):Prop where
 same:Same H0 H
 fd:H0 D=none
 fa:∀ a∈as,H0 a=none
 nd:(D::as).Nodup
 d:H D=some (.lst (as.reverse.map V.ref))
 rows:Paired (pN D as H) as st
theorem Paired.mem{α β:Type}{F G:α→β→Prop}:∀ {a:List α} {b:List β},Paired F a b→(∀ x y,x∈a→F x y→G x y)→Paired G a b
 | _,_,.nil,_=>.nil
 | _,_,.cons h t,k=>.cons (k _ _ List.mem_cons_self h) (Paired.mem t fun x y hx=>k x y (List.mem_cons_of_mem _ hx))
theorem Paired.left{α β:Type}{F:α→β→Prop}:∀ {a:List α} {b:List β} {x:α},Paired F a b→x∈a→∃ y,F x y
 | _,_,_,.cons h t,hx=>by
  rcases List.mem_cons.mp hx with rfl | hx
  ·exact⟨_,h⟩
  ·exact Paired.left t hx
theorem pN.mono{D:Addr}{as as':List Addr}{H H':Hp}{a:Addr}{ts:List Tr}(h:pN D as H a ts)(ha:∀ o,H a=some o→H' a=some o)(k:∀ b o,b≠D∧b∉as→H b=some o→(b≠D∧b∉as')∧H' b=some o):pN D as' H' a ts:=
 let ⟨xs,e,m⟩:=h; ⟨xs,ha _ e,ce k m⟩
theorem cQ.push{H0 H:Hp}{D p:Addr}{as:List Addr}{st:List (List Tr)}(h:cQ H0 H D as st)(hp:H p=none):cQ H0 (upd (upd H p (.lst [])) D (.lst (as.reverse.map V.ref++[.ref p]))) D (p::as) ([]::st):=by
 have nd:=List.nodup_cons.mp h.nd
 have pD:p≠D:=fun e=>by rw [e,h.d] at hp; cases hp
 have al:∀ a∈as,∃ o,H a=some o:=fun a ha=>by
  obtain⟨ts,xs,e,_⟩:=Paired.left h.rows ha
  exact⟨_,e⟩
 have pa:p∉as:=fun e=>by obtain⟨o,e2⟩:=al p e; rw [hp] at e2; cases e2
 refine⟨fun c o e=>by rw [ad (ae e h.fd)]; exact ac hp _ _ _ (h.same _ _ e),h.fd,fun a ha=>?_,?_,?_,?_⟩
 ·rcases List.mem_cons.mp ha with rfl | ha
  ·exact h.same.free hp
  ·exact h.fa a ha
 ·refine List.nodup_cons.mpr ⟨fun e=>?_,List.nodup_cons.mpr ⟨pa,nd.2⟩⟩
  rcases List.mem_cons.mp e with e | e
  ·exact pD e.symm
  ·exact nd.1 e
 ·rw [aa,List.reverse_cons,List.map_append]; rfl
 ·refine .cons ⟨[],by rw [ad pD]; exact aa,.nil⟩ (Paired.mem h.rows fun a ts ha r=>r.mono (fun o e=>?_) fun b o hb e=>⟨⟨hb.1,fun z=>?_⟩,?_⟩)
  ·rw [ad (show a≠D from fun z=>nd.1 (z▸ha)),ad (ae e hp)]; exact e
  ·rcases List.mem_cons.mp z with z | z
   ·rw [z,hp] at e; cases e
   ·exact hb.2 z
  ·rw [ad hb.1,ad (ae e hp)]; exact e
theorem cQ.add{H0 H:Hp}{D a:Addr}{as:List Addr}{r:List Tr}{st:List (List Tr)}{xs:List V}{w:Str}(h:cQ H0 H D (a::as) (r::st))(hx:H a=some (.lst xs)):cQ H0 (upd H a (.lst (xs++[.str w]))) D (a::as) ((r++[.leaf w])::st):=by
 have nd:=List.nodup_cons.mp h.nd
 have nd2:=List.nodup_cons.mp nd.2
 have aD:D≠a:=fun e=>nd.1 (by rw [e]; exact List.mem_cons_self)
 have hrow:=h.rows
 cases hrow with
 | cons f t=>
  obtain⟨ys,e,m⟩:=f
  rw [hx] at e; cases e
  have kk:∀ b o,b≠D∧b∉a::as→H b=some o→(b≠D∧b∉a::as)∧(upd H a (.lst (xs++[.str w]))) b=some o:=fun b o hb e=>⟨hb,by rw [ad (fun z=>hb.2 (by rw [z]; exact List.mem_cons_self))]; exact e⟩
  refine⟨fun c o e=>by rw [ad (ae e (h.fa a List.mem_cons_self))]; exact h.same _ _ e,h.fd,h.fa,h.nd,by rw [ad aD]; exact h.d,.cons ⟨_,aa,(ce kk m).snoc (.leaf w)⟩ (Paired.mem t fun b ts hb rr=>rr.mono (fun o e=>?_) kk)⟩
  rw [ad (show b≠a from fun z=>nd2.1 (z▸hb))]; exact e
theorem cQ.pop{H0 H:Hp}{D a b:Addr}{as:List Addr}{r q:List Tr}{st:List (List Tr)}{ys:List V}(h:cQ H0 H D (a::b::as) (r::q::st))(hy:H b=some (.lst ys)):cQ H0 (upd (upd H D (.lst ((b::as).reverse.map V.ref))) b (.lst (ys++[.ref a]))) D (b::as) ((q++[.node r])::st):=by
 have nd:=List.nodup_cons.mp h.nd
 have nd2:=List.nodup_cons.mp nd.2
 have nd3:=List.nodup_cons.mp nd2.2
 have aD:a≠D:=fun e=>nd.1 (by rw [← e]; exact List.mem_cons_self)
 have bD:D≠b:=fun e=>nd.1 (by rw [e]; exact List.mem_cons_of_mem _ List.mem_cons_self)
 have ab:a≠b:=fun e=>nd2.1 (by rw [e]; exact List.mem_cons_self)
 have hrow:=h.rows
 cases hrow with
 | cons f t=>
 cases t with
 | cons g t=>
  obtain⟨xs,ex,mx⟩:=f
  obtain⟨zs,ez,mz⟩:=g
  rw [hy] at ez; cases ez
  have kk:∀ c o,c≠D∧c∉a::b::as→H c=some o→(c≠D∧c∉b::as)∧(upd (upd H D (.lst ((b::as).reverse.map V.ref))) b (.lst (ys++[.ref a]))) c=some o:=fun c o hc e=>⟨⟨hc.1,fun z=>hc.2 (List.mem_cons_of_mem _ z)⟩,by rw [ad (fun z=>hc.2 (by rw [z]; exact List.mem_cons_of_mem _ List.mem_cons_self)),ad hc.1]; exact e⟩
  refine⟨fun c o e=>by rw [ad (ae e (h.fa b (List.mem_cons_of_mem _ List.mem_cons_self))),ad (ae e h.fd)]; exact h.same _ _ e,h.fd,fun c hc=>h.fa c (List.mem_cons_of_mem _ hc),List.nodup_cons.mpr ⟨fun z=>nd.1 (List.mem_cons_of_mem _ z),nd2.2⟩,by rw [ad bD]; exact aa,.cons ⟨_,aa,(ce kk mz).snoc (.node ⟨aD,nd2.1⟩ (by rw [ad ab,ad aD]; exact ex) (ce kk mx))⟩ (Paired.mem t fun c ts hc rr=>rr.mono (fun o e=>?_) kk)⟩
  rw [ad (show c≠b from fun z=>nd3.1 (z▸hc)),ad (show c≠D from fun z=>nd.1 (z▸List.mem_cons_of_mem _ (List.mem_cons_of_mem _ hc)))]; exact e
theorem dw{H:Hp}{x dx CB:Addr}(hx:H x=none)(hd:H dx=none)(n:dx≠x):Same H (upd (upd H dx (.own x)) x (.ins CB dx [])):=
 (ac hd _).trans (ac (by rw [ad (Ne.symm n)]; exact hx) _)
theorem dy{H H1 H2:Hp}{x:Addr}(hx:H x=none)(s:Same H H1)(t:ax x H1 H2):Same H H2:=fun b o e=>t b o (ae e hx) (s b o e)
section
abbrev cY:Stmt:=top 13
theorem zb4:ak ["signs","thing"] ["signs","thing"] (af cY):=by walk_at "F"
inductive spLookI(C:Addr)(vs:List V)(H:Hp)(Q:VK):Prop where
 | mk:∀ (g:Addr) (v:V) (ks:List Str) (ts:List ar) (fs:List aq) (t:Tr),vs=[.ref g,v]→aH C H g ks ts fs→au ks ts fs→Mix H v t→(b6 ks ts fs (fun _=>none) t)→dep t≤12→(∀ u H',Tup H' u t→Same H H'→Q u H')→spLookI C vs H Q
def ke(C:Addr):Sp:=fun vs H Q _=>spLookI C vs H Q
theorem vT{C CT fT:Addr}{fdT:FuncData}(F:am K mg "looked_over" cY ["signs","thing"])(Z:Bl mg)(GD:∃ u,mg "DEEPEST"=some u∧az (.int 64) u)
  (M_SignTable:Mk K CT fT) (G_SignTable:aZ P w K mg base CX0 2 fT fdT ["self","signs"] (jv C CT)) (m_SignTable:mg "SignTable"=some (.ref CT)) (b_SignTable:aU K fdT ["self","signs"] [])
  (D_checked_saying:Def P w K mg base "checked_saying" (2*12+5) ["table","thing","scope","room"] (jx CT 12)):Def P w K mg base "looked_over" 30 ["signs","thing"] (ke C):=by
 have SC:=zb4
 obtain⟨_,g_DEEPEST,r_DEEPEST⟩:=GD
 refine F.mk' (k:=29) zb4 (fun vs H Q E h=>?_) (fun f cdv A outer s H vs Q E hr h=>?_)
 ·obtain⟨g,v,ks,ts,fs,t,rfl,_⟩:=h
  rfl
 ·obtain⟨g,v,ks,ts,fs,t,rfl,hS,ok,hm,hs,hd,q⟩:=h
  refine'⟨_,?derivation,?_⟩
  case derivation=>(walk_at "S1")
  refine⟨_,rfl,fun x dx hx hdx nd=>?_⟩
  have s1:=dw (CB:=CT) hx hdx nd
  refine⟨x,dx,g,ks,ts,fs,rfl,aa,hS.same s1,ok,fun H2 hT t2=>⟨rfl,?_⟩⟩
  have s2:=dy hx s1 t2
  refine⟨_,rfl,fun sc hsc=>?_⟩
  have s3:=ac hsc (.dK [])
  refine⟨x,sc,v,64,ks,ts,fs,fun _=>none,0,t,rfl,hT.same s3,ok,⟨[],aa,Nat.le_refl _,fun _=>rfl⟩,by decide,cq (s2.trans s3) hm,hs,hd,by omega,fun u H4 tu s4=>q u H4 tu ((s2.trans s3).trans s4)⟩
abbrev cJ:Stmt:=top 22
theorem zb5:ak ["signs","saying"] ["signs","saying"] (af cJ):=by walk_at "F"
inductive spWriteI(C:Addr)(vs:List V)(H:Hp)(Q:VK):Prop where
 | mk:∀ (g:Addr) (v:V) (ks:List Str) (ts:List ar) (fs:List aq) (t:Tr),vs=[.ref g,v]→aH C H g ks ts fs→au ks ts fs→Mix H v t→(b6 ks ts fs (fun _=>none) t)→dep t≤12→(wr t).length≤1000000→(∀ H',Same H H'→Q (.str (wr t)) H')→spWriteI C vs H Q
def oP(C:Addr):Sp:=fun vs H Q _=>spWriteI C vs H Q
theorem tN{C:Addr}(F:am K mg "write_saying" cJ ["signs","saying"])(Z:Bl mg)(D_looked_over:Def P w K mg base "looked_over" 30 ["signs","thing"] (ke C))(D_written:Def P w K mg base "written" (12+2) ["thing"] (j6 12)):Def P w K mg base "write_saying" 31 ["signs","saying"] (oP C):=by
 have SC:=zb5
 refine F.mk' (k:=30) zb5 (fun vs H Q E h=>?_) (fun f cdv A outer s H vs Q E hr h=>?_)
 ·obtain⟨g,v,ks,ts,fs,t,rfl,_⟩:=h
  rfl
 ·obtain⟨g,v,ks,ts,fs,t,rfl,hS,ok,hm,hs,hd,hw,q⟩:=h
  refine'⟨_,?derivation,?_⟩
  case derivation=>(walk_at "S1")
  refine⟨_,rfl,_,rfl,g,v,ks,ts,fs,t,rfl,hS,ok,hm,hs,hd,fun u H1 tu s1=>?_⟩
  exact⟨u,t,rfl,tu,hd,hw,fun H2 s2=>q H2 (s1.trans s2)⟩
end
theorem zb6:LD "len":=by decide +kernel
theorem zb7:LM "len":=by decide +kernel
theorem zb8:LD "row":=by decide +kernel
theorem zb9:LS "row":=by decide +kernel
theorem zca:LD "rows":=by decide +kernel
theorem zcb:LS "rows":=by decide +kernel
theorem zcc:LD "text":=by decide +kernel
theorem zcd:LD "word":=by decide +kernel
theorem zce:LS "word":=by decide +kernel
theorem i0{f:Nat→List Nat}(h:∀ d,(f d).length≤3):∀ l:List Nat,(l.flatMap f).length≤3*l.length
 | []=>by simp
 | d::r=>by
  rw [List.flatMap_cons,List.length_append,List.length_cons]
  have:=h d
  have:=i0 h r
  omega
theorem sk(x:Str):x.length=x.cps.toList.length:=by show x.cps.size=_; simp
theorem sJ(x:Str):(Txt.replace x "(" " ( ").length≤3*x.length:=by
 rw [sk,sk,show ("(":Str)=⟨#[40]⟩ from rfl,gb]
 exact i0 (fun d=>by by_cases h:d=40 <;> simp [h]; decide) _
theorem sI(x:Str):(Txt.replace x ")" " ) ").length≤3*x.length:=by
 rw [sk,sk,show (")":Str)=⟨#[41]⟩ from rfl,gb]
 exact i0 (fun d=>by by_cases h:d=41 <;> simp [h]; decide) _
theorem mS{α:Type}(l:List α)(x:α):atI (l++[x]) (-1)=some x:=by
 unfold atI ixN
 have h:¬ ((0:Int)≤-1):=by decide
 rw [if_neg h]
 simp
 rw [if_pos (by omega)]
 have e:(-1+((l.length:Int)+1)).toNat=l.length:=by omega
 simp [e]
section
abbrev be:Stmt:=top 25
theorem zcf:ak ["text","rows","word","row"] ["text"] (af be):=⟨rfl,rfl,rfl,by decide +kernel,rfl,by decide +kernel,by decide +kernel⟩
theorem zcg:LN .globalImplicit be "len":=by decide +kernel
theorem zch:LN .local be "row":=by decide +kernel
theorem zci:LN .local be "rows":=by decide +kernel
theorem zcj:LN .local be "text":=by decide +kernel
theorem zck:LN .local be "word":=by decide +kernel
inductive spBrI(vs:List V)(H:Hp)(Q:VK):Prop where
 | mk:∀ (t:Tr),vs=[.str (wr t)]→OkT t→(wr t).length≤100000→(∀ u H',Mix H' u t→Same H H'→Q u H')→spBrI vs H Q
def ze:Sp:=fun vs H Q _=>spBrI vs H Q
theorem zy(F:am K mg "bracketed" be ["text"])(Z:Bl mg):Def P w K mg base "bracketed" 1 ["text"] ze:=by
 have SC:=zcf
 refine F.mk' (k:=0) zcf (fun vs H Q E h=>?_) (fun f cdv A outer s H vs Q E hr h=>?_)
 ·obtain⟨t,rfl,_⟩:=h
  rfl
 ·obtain⟨t,rfl,ok,hl,q⟩:=h
  refine'⟨_,?derivation,?_⟩
  case derivation=>refine' sS (i:=1) (x:=Str.ofString "rows") SC.nd rfl zci ?Aa ?Ba rfl;(case Aa=>refine' kD ?Ca;case Ca=>refine' cV ?Da di ?Ea;(case Da=>refine' kD di);case Ea=>rfl);case Ba=>refine' pZ ?Fa ?Ga;(case Fa=>refine' vp PassesOwn.never rfl ?Ha ?Ia ?Ja ?Ka;(case Ha=>refine' qb ?La rfl rfl;case La=>refine' gZ ?Ma rfl rfl;case Ma=>refine' gZ ?Na rfl rfl;case Na=>refine' vB (i:=0) (x:=Str.ofString "text") rfl zcj zcc);(case Ia=>refine' kz (i:=2) (x:=Str.ofString "word") SC.nd rfl (Or.inl zck) (.inl rfl));(case Ja=>refine' bU ?Oa;case Oa=>refine' jB ?Pa ?Qa ?Ra;(case Pa=>refine' cD tJ (pq 2 (fV zck) zcd zce) ?Sa (iO _);case Sa=>exact kC);(case Qa=>refine' bU ?Ta;case Ta=>refine' io ?Ua rfl;case Ua=>refine' eA PySem.F.plainAttrs_list PySem.F.slot_list_append PySem.F.type_list_append eN (pq 1 (fV zci) zca zcb) ?Va rfl rfl rfl rfl rfl;case Va=>refine' cV ?Wa di ?Xa;(case Wa=>refine' kD di);case Xa=>rfl);case Ra=>refine' bU ?Ya;case Ya=>refine' jB ?Za ?Ab ?Bb;(case Za=>refine' cD tJ (pq 2 (fV zck) zcd zce) ?Cb (iO _);case Cb=>exact kC);(case Ab=>refine' er ?Db ?Eb;(case Db=>refine' sV (i:=3) (x:=Str.ofString "row") ?Fb ?Gb ?Hb ?Ib ?Jb ?Kb;(case Fb=>exact SC.nd);(case Gb=>exact rfl);(case Hb=>exact(Or.inl zch));(case Ib=>refine' nG PySem.F.plainAttrs_list PySem.F.slot_list_pop PySem.F.type_list_pop uf (pq 1 (fV zci) zca zcb) rfl rfl);(case Jb=>rfl);case Kb=>exact .inl rfl);case Eb=>refine' er ?Lb ?Mb;(case Lb=>refine' jB ?Nb ?Ob im;(case Nb=>refine' sP ?Pb;case Pb=>refine' iK (pq 1 (fV zci) zca zcb) ?Qb;case Qb=>intro _;exact rfl);case Ob=>refine' bU iL);case Mb=>refine' bU ?Rb;case Rb=>refine' io ?Sb rfl;case Sb=>refine' eA PySem.F.plainAttrs_list PySem.F.slot_list_append PySem.F.type_list_append eN ?Tb ?Ub rfl rfl rfl rfl rfl;(case Tb=>refine' gc ix_list (pq 1 (fV zci) zca zcb) ?Vb ?Wb;(case Vb=>refine' tq mV ?Xb;case Xb=>exact dM);case Wb=>intro _ _;exact rfl);case Ub=>refine' cV (pq 3 (fV zch) zb8 zb9) di ?Yb;case Yb=>rfl);case Bb=>refine' bU ?Zb;case Zb=>refine' jB ?Ac ?Bc im;(case Ac=>refine' iK (pq 2 (fV zck) zcd zce) ?Cc;case Cc=>intro _;exact rfl);case Bc=>refine' bU ?Dc;case Dc=>refine' io ?Ec rfl;case Ec=>refine' eA PySem.F.plainAttrs_list PySem.F.slot_list_append PySem.F.type_list_append eN ?Fc ?Gc rfl rfl rfl rfl rfl;(case Fc=>refine' gc ix_list (pq 1 (fV zci) zca zcb) ?Hc ?Ic;(case Hc=>refine' tq mV ?Jc;case Jc=>exact dM);case Ic=>intro _ _;exact rfl);case Gc=>refine' cV (pq 2 (fV zck) zcd zce) di ?Kc;case Kc=>rfl);case Ka=>intro _; rfl);case Ga=>refine' er ?Lc ?Mc;(case Lc=>refine' jB ?Nc ?Oc im;(case Nc=>refine' PW.pt ?Pc;case Pc=>refine' xk ?Qc ?Rc;(case Qc=>refine' cD tI ?Sc ?Tc (iO _);(case Sc=>refine' cp (hn:=zb7) (hdb:=zb6) dR zcg Z.n_len i7 ?Uc rfl rfl;case Uc=>refine' cV (pq 1 (fV zci) zca zcb) di ?Vc;case Vc=>rfl);case Tc=>exact dM);case Rc=>refine' sO ?Wc;case Wc=>refine' cD tI ?Xc ?Yc (iO _);(case Xc=>refine' cp (hn:=zb7) (hdb:=zb6) dR zcg Z.n_len i7 ?Zc rfl rfl;case Zc=>refine' cV ?Ad di ?Bd;(case Ad=>refine' gc ix_list (pq 1 (fV zci) zca zcb) ?Cd ?Dd;(case Cd=>exact dM);case Dd=>intro _ _;exact rfl);case Bd=>rfl);case Yc=>exact dM);case Oc=>refine' bU iL);case Mc=>refine' bU ?Ed;case Ed=>refine' sW ?Fd;case Fd=>refine' gc ix_list ?Gd ?Hd ?Id;(case Gd=>refine' gc ix_list (pq 1 (fV zci) zca zcb) ?Jd ?Kd;(case Jd=>exact dM);case Kd=>intro _ _;exact rfl);(case Hd=>exact dM);case Id=>intro _ _;exact rfl
  have r1:=sJ (wr t)
  have r2:=sI (Txt.replace (wr t) "(" " ( ")
  have l3:(" ( ":Str).length=3:=rfl
  have l4:(" ) ":Str).length=3:=rfl
  have wl:(wd t).length≤900001:=by
   have js:=dB (wd t)
   have e:Txt.replace (Txt.replace (wr t) "(" " ( ") ")" " ) "=Str.join " " (wd t):=gt ((iI _).trans (fU t ok))
   rw [← e] at js
   omega
  refine⟨by show 0≤sizeLine; decide,fun a0 ha0=>⟨by show 1≤sizeLine; decide,fun D hD=>?_⟩⟩
  refine⟨_,rfl,wr t,rfl,by rw [l3]; omega,by decide +kernel,_,rfl,by rw [l4]; omega,by decide +kernel,_,rfl,by decide +kernel,Nat.lt_of_le_of_lt (show _≤900000 by omega) (by decide),by rw [kU ok]; exact Nat.le_trans wl (by decide),fun L hL=>?_⟩
  rw [kU ok]
  have s1:=ac ha0 (.lst [])
  have s2:=ac hD (.lst [.ref a0])
  have s3:=ac hL (.lst ((wd t).map V.str))
  have hLH:H L=none:=(s1.trans s2).free hL
  have nLD:L≠D:=by rintro rfl; rw [aa] at hL; cases hL
  have nLa:L≠a0:=by rintro rfl; rw [s2 _ _ aa] at hL; cases hL
  have nDa:D≠a0:=by rintro rfl; rw [aa] at hD; cases hD
  have sx:Same H (upd H L (.lst ((wd t).map V.str))):=ac hLH _
  have R0:cQ (upd H L (.lst ((wd t).map V.str))) (upd (upd (upd H a0 (.lst [])) D (.lst [.ref a0])) L (.lst ((wd t).map V.str))) D [a0] [[]]:=by
   refine⟨fun c o e=>?_,by rw [ad (Ne.symm nLD)]; exact s1.free hD,fun a ha=>?_,by simp [nDa],by rw [ad (Ne.symm nLD)]; exact aa,.cons ⟨[],?_,.nil⟩ .nil⟩
   ·by_cases hc:c=L
    ·subst hc; rw [aa] at e ⊢; exact e
    ·rw [ad hc] at e ⊢
     exact s2 _ _ (s1 _ _ e)
   ·rw [List.mem_singleton.mp ha,ad (Ne.symm nLa)]; exact ha0
   ·rw [ad (Ne.symm nLa),ad (Ne.symm nDa)]; exact aa
  generalize (upd (upd (upd H a0 (.lst [])) D (.lst [.ref a0])) L (.lst ((wd t).map V.str)))=H3 at R0
  have rn:=so t ok [] []
  refine dC (K:=K) (a:=L) (xs:=(wd t).map V.str) (fun i σ H2=>∃ (as:List Addr) (st:List (List Tr)) (v2 v3:Option V),σ=[some (.str (wr t)),some (.ref D),v2,v3]∧run ((wd t).take i) [[]]=some st∧cQ (upd H L (.lst ((wd t).map V.str))) H2 D as st∧(st.map List.length).sum+st.length≤i+1)
   ⟨[a0],[[]],_,_,rfl,rfl,R0,by decide⟩ (fun i σ H2 _ ⟨_,_,_,_,_,_,y,_⟩=>SqL.of (y.same _ _ aa)) ?_ ?_
  ·rintro i y σ H2 hi ⟨as,st,v2,v3,rfl,hrun,ro,hb⟩
   rw [List.getElem?_map] at hi
   obtain⟨wrd,hw,rfl⟩:=Option.map_eq_some_iff.mp hi
   obtain⟨st',st2,e1,e2,e3⟩:=lB rn hw
   rw [hrun] at e1; cases e1
   have hil:i<(wd t).length:=(List.getElem?_eq_some_iff.mp hw).1
   have al:as.length=st.length:=Paired.length ro.rows
   have dl:(as.reverse.map V.ref).length<sizeLine:=Nat.lt_of_le_of_lt (show _≤900002 by rw [List.length_map,List.length_reverse]; omega) (by decide)
   unfold stp at e2
   by_cases h1:wrd="("
   ·rw [if_pos h1] at e2
    cases e2
    refine⟨_,rfl,rfl,_,rfl,ifT (decide_eq_true (by rw [h1])) ?_⟩
    exact⟨_,rfl,.inl ⟨rfl,_,SqL.of ro.d⟩,by show 0≤sizeLine; decide,fun p hp=>⟨D,_,_,rfl,rfl,by rw [ad (ae ro.d hp)]; exact ro.d,dl,p::as,_,_,_,rfl,e3,ro.push hp,by simp; omega⟩⟩
   rw [if_neg h1] at e2
   refine⟨_,rfl,rfl,_,rfl,ifF (by simp; exact h1) ?_⟩
   by_cases h2:wrd=")"
   ·rw [if_pos h2] at e2
    refine⟨_,rfl,rfl,_,rfl,ifT (decide_eq_true (by rw [h2])) ?_⟩
    match st,e2,ro,hb,al with
    | [],e2,_,_,_=>cases e2
    | [_],e2,_,_,_=>cases e2
    | r::q'::rest,e2,ro,hb,al=>
     cases e2
     match as,ro,al,dl with
     | [],_,al,_=>simp at al
     | [_],_,al,_=>simp at al
     | a::b::as',ro,al,dl=>
      have nd:=List.nodup_cons.mp ro.nd
      have bD:b≠D:=fun e=>nd.1 (by rw [← e]; exact List.mem_cons_of_mem _ List.mem_cons_self)
      obtain⟨ys,ey,my⟩:∃ ys,H2 b=some (.lst ys)∧ys.length=q'.length:=by
       have:=ro.rows
       cases this with
       | cons f t2=>
       cases t2 with
       | cons g t3=>
        obtain⟨zs,ez,mz⟩:=g
        exact⟨zs,ez,mz.length⟩
      have exs:(a::b::as').reverse.map V.ref=(b::as').reverse.map V.ref++[V.ref a]:=by rw [List.reverse_cons,List.map_append]; rfl
      have exb:(b::as').reverse.map V.ref=as'.reverse.map V.ref++[V.ref b]:=by rw [List.reverse_cons,List.map_append]; rfl
      have d':H2 D=some (.lst ((b::as').reverse.map V.ref++[V.ref a])):=by rw [← exs]; exact ro.d
      refine⟨_,rfl,.inl ⟨rfl,_,SqL.of d'⟩,D,_,.ref a,rfl,rfl,d',by simp,?_⟩
      rw [List.dropLast_concat]
      refine⟨_,rfl,true,.inl ⟨_,SqL.of aa,by rw [exb]; simp⟩,bI ?_⟩
      have eb:(upd H2 D (.lst ((b::as').reverse.map V.ref))) b=some (.lst ys):=by rw [ad bD]; exact ey
      simp only [List.map_cons,List.sum_cons,List.length_cons] at hb
      exact⟨_,rfl,1,rfl,D,_,-1,.ref b,rfl,rfl,SqL.of aa,by rw [exb]; exact mS _ _,.inl ⟨rfl,_,SqL.of eb⟩,_,rfl,b,ys,_,rfl,rfl,eb,Nat.lt_of_le_of_lt (show ys.length≤900002 by omega) (by decide),b::as',_,_,_,rfl,e3,ro.pop ey,by simp only [List.map_cons,List.sum_cons,List.length_cons,List.length_append,List.length_nil]; omega⟩
   rw [if_neg h2] at e2
   refine⟨_,rfl,rfl,_,rfl,ifF (by simp; exact h2) ?_⟩
   by_cases h3:wrd=Str.empty
   ·rw [if_pos h3] at e2
    cases e2
    subst h3
    exact⟨_,rfl,false,⟨by decide,rfl⟩,bI ⟨as,st,_,_,rfl,e3,ro,by omega⟩⟩
   ·rw [if_neg h3] at e2
    match st,e2,ro,hb,al with
    | [],e2,_,_,_=>cases e2
    | r::rest,e2,ro,hb,al=>
     cases e2
     match as,ro,al,dl with
     | [],_,al,_=>simp at al
     | a::as',ro,al,dl=>
      obtain⟨ys,ey,my⟩:∃ ys,H2 a=some (.lst ys)∧ys.length=r.length:=by
       have:=ro.rows
       cases this with
       | cons f t2=>
        obtain⟨zs,ez,mz⟩:=f
        exact⟨zs,ez,mz.length⟩
      have exb:(a::as').reverse.map V.ref=as'.reverse.map V.ref++[V.ref a]:=by rw [List.reverse_cons,List.map_append]; rfl
      have wlen:wrd.length≤sizeLine:=by
       have:=join_mem_le " " (wd t) wrd (List.mem_of_getElem? hw)
       have e:Txt.replace (Txt.replace (wr t) "(" " ( ") ")" " ) "=Str.join " " (wd t):=gt ((iI _).trans (fU t ok))
       rw [← e] at this
       exact Nat.le_trans (show wrd.length≤900000 by omega) (by decide)
      have wne:((wrd.length:Int) != 0)=true:=by
       have : wrd.length≠0:=fun z=>h3 (gt (by rw [sk] at z; rw [List.length_eq_zero_iff.mp z]; rfl))
       simp; omega
      simp only [List.map_cons,List.sum_cons,List.length_cons] at hb
      refine⟨_,rfl,true,⟨wlen,wne.symm⟩,ifT rfl ?_⟩
      exact⟨_,rfl,1,rfl,D,_,-1,.ref a,rfl,rfl,SqL.of ro.d,by rw [exb]; exact mS _ _,.inl ⟨rfl,_,SqL.of ey⟩,_,rfl,a,ys,_,rfl,rfl,ey,Nat.lt_of_le_of_lt (show ys.length≤900002 by omega) (by decide),a::as',_,_,_,rfl,e3,ro.add ey,by simp only [List.map_cons,List.sum_cons,List.length_cons,List.length_append,List.length_nil]; omega⟩
  ·rintro σ H2 ⟨as,st,v2,v3,rfl,hrun,ro,hb⟩
   rw [List.length_map,List.take_length,rn] at hrun
   cases hrun
   have:=ro.rows
   cases this with
   | cons f t2=>
    cases t2
    obtain⟨xs,ex,mx⟩:=f
    cases mx with
    | cons m0 m1=>
     cases m1
     have d1:=ro.d
     refine⟨_,rfl,D,_,rfl,.inl (SqL.of d1),rfl,_,rfl,ifF (by simp) ?_⟩
     refine⟨_,rfl,D,_,0,_,rfl,rfl,SqL.of d1,rfl,_,_,rfl,.inl (SqL.of ex),rfl,_,rfl,ifF (by simp) ?_⟩
     exact⟨_,rfl,D,_,0,_,rfl,rfl,SqL.of d1,rfl,_,_,0,_,rfl,rfl,SqL.of ex,rfl,q _ H2 (mf m0) (sx.trans ro.same)⟩
end
theorem lY{z:Str}(h:aK z):OkT (.leaf z):=by
 refine⟨?_,fun c hc=>?_⟩
 ·rintro rfl
  have:=h.1
  exact absurd this (by decide)
 ·have:=h.2.2 c hc
  omega
theorem j2:∀ z∈[("=":Str),"not","and","or","all","some"],OkT (.leaf z):=by
 intro z hz
 have : ∀ z∈[("=":Str),"not","and","or","all","some"],z≠Str.empty∧∀ c∈z.cps.toList,c≠32∧c≠40∧c≠41:=by decide +kernel
 exact this z hz
mutual
theorem rC{ks:List Str}{ts:List ar}{fs:List aq}(B:au ks ts fs){S:Str→Option Str}(hS:∀ x k,S x=some k→aK x):∀ {t:Tr} {k:Str},gr fs S t k→OkT t
 | _,_,.var h=>lY (hS _ _ h)
 | _,_,.app hf r=>⟨fun z=>(by cases z),lY (B.fn _ hf).1.1,m4 B hS r⟩
theorem m4{ks:List Str}{ts:List ar}{fs:List aq}(B:au ks ts fs){S:Str→Option Str}(hS:∀ x k,S x=some k→aK x):∀ {t:List Tr} {k:List Str},bZ fs S t k→OkA t
 | _,_,.nil=>trivial
 | _,_,.cons h r=>⟨rC B hS h,m4 B hS r⟩
end
theorem lx{S:Str→Option Str}(hS:∀ x k,S x=some k→aK x){z q:Str}(hz:aK z):∀ x k,cm S z q x=some k→aK x:=by
 intro x k h
 unfold cm at h
 by_cases e:x=z
 ·rw [e]; exact hz
 ·rw [if_neg e] at h; exact hS _ _ h
mutual
theorem oN{ks:List Str}{ts:List ar}{fs:List aq}(B:au ks ts fs):∀ {S:Str→Option Str} {t:Tr},(∀ x k,S x=some k→aK x)→b6 ks ts fs S t→OkT t
 | _,_,hS,.eq a b=>⟨fun z=>(by cases z),j2 _ (by simp),rC B hS a,rC B hS b,trivial⟩
 | _,_,hS,.not a=>⟨fun z=>(by cases z),j2 _ (by simp),oN B hS a,trivial⟩
 | _,_,hS,.conn hw _ a=>⟨fun z=>(by cases z),j2 _ (by rcases hw with rfl | rfl <;> simp),rL B hS a⟩
 | _,_,hS,.bind hw hx hk a=>⟨fun z=>(by cases z),j2 _ (by rcases hw with rfl | rfl <;> simp),lY hx,lY (B.kn2 _ hk),oN B (lx hS hx) a,trivial⟩
 | _,_,hS,.tie ht a=>⟨fun z=>(by cases z),lY (B.tn _ ht).1.1,m4 B hS a⟩
theorem rL{ks:List Str}{ts:List ar}{fs:List aq}(B:au ks ts fs):∀ {S:Str→Option Str} {t:List Tr},(∀ x k,S x=some k→aK x)→cS ks ts fs S t→OkA t
 | _,_,_,.nil=>trivial
 | _,_,hS,.cons a r=>⟨oN B hS a,rL B hS r⟩
end
section
abbrev cX:Stmt:=top 24
theorem zcl:ak ["signs","text","saying"] ["signs","text"] (af cX):=by walk_at "F"
inductive spReadI(C:Addr)(vs:List V)(H:Hp)(Q:VK):Prop where
 | mk:∀ (g:Addr) (ks:List Str) (ts:List ar) (fs:List aq) (t:Tr),vs=[.ref g,.str (wr t)]→aH C H g ks ts fs→au ks ts fs→(b6 ks ts fs (fun _=>none) t)→dep t≤12→(wr t).length≤100000→(∀ u H',Tup H' u t→Same H H'→Q u H')→spReadI C vs H Q
def rV(C:Addr):Sp:=fun vs H Q _=>spReadI C vs H Q
theorem vS{C:Addr}(F:am K mg "read_saying" cX ["signs","text"])(Z:Bl mg)(D_looked_over:Def P w K mg base "looked_over" 30 ["signs","thing"] (ke C))(D_written:Def P w K mg base "written" (12+2) ["thing"] (j6 12))(D_bracketed:Def P w K mg base "bracketed" 1 ["text"] ze):Def P w K mg base "read_saying" 31 ["signs","text"] (rV C):=by
 have SC:=zcl
 refine F.mk' (k:=30) zcl (fun vs H Q E h=>?_) (fun f cdv A outer s H vs Q E hr h=>?_)
 ·obtain⟨g,ks,ts,fs,t,rfl,_⟩:=h
  rfl
 ·obtain⟨g,ks,ts,fs,t,rfl,hS,ok,hs,hd,hw,q⟩:=h
  have ho:=oN ok (fun _ _ z=>by cases z) hs
  refine'⟨_,?derivation,?_⟩
  case derivation=>(have:=aj 5 100 11 32; walk_at "S2")
  refine⟨_,rfl,_,_,_,rfl,.str _,bX K,true,rfl,bI ?_⟩
  refine⟨_,rfl,_,rfl,t,rfl,ho,hw,fun v H1 hm s1=>?_⟩
  refine⟨g,v,ks,ts,fs,t,rfl,hS.same s1,ok,hm,hs,hd,fun u H2 tu s2=>?_⟩
  refine⟨_,rfl,u,t,rfl,tu,hd,by omega,fun H3 s3=>?_⟩
  refine⟨_,rfl,rfl,_,rfl,ifF (by simp) ?_⟩
  exact⟨_,rfl,q u H3 (aX (Few.Same.tups s3) tu) ((s1.trans s2).trans s3)⟩
end
theorem qN{K:PySem.W.Frag}{a:Addr}{xs:List V}{g:TG}{tb:TS}{D:dn}{σ:St}{H:Hp}(Pv:Nat→St→Hp→Prop)(h0:Pv 0 σ H)(hl:∀ i σ H,i≤xs.length→Pv i σ H→SqT K H a xs)
  (hs:∀ i x σ H p,xs[i]? = Option.some x→Pv i σ H→H p=none→g (.ref p) σ (upd H p (.tup [.int i,x])) fun σ2 H2=>tb {D with nx:=Pv (i+1),ct:=Pv (i+1),bk:=D.nx} σ2 H2) (hd:∀ σ H,Pv xs.length σ H→D.nx σ H) :
  ∃ W:Nat→Nat→St→Hp→Prop,(∃ m,W 0 m σ H)∧∀ i m σ H,W i m σ H→
   ((uU K a).stop i H∧D.nx σ H)∨((uU K a).go i H∧∃ N:St→Hp→Prop,(∀ σ' H',N σ' H'→∃ m',m'<m∧W (i+1) m' σ' H')∧∀ x H',(uU K a).yld i H x H'→g x σ H' fun σ2 H2=>tb {D with nx:=N,ct:=N,bk:=D.nx} σ2 H2):=by
 refine⟨fun i m σ H=>m=xs.length-i∧i≤xs.length∧Pv i σ H,⟨xs.length,by simp,Nat.zero_le _,h0⟩,?_⟩
 rintro i m σ H ⟨rfl,hi,p⟩
 have q:=hl i σ H hi p
 by_cases hlt:i<xs.length
 ·refine .inr ⟨⟨xs,xs[i],q,by simp [hlt]⟩,Pv (i+1),fun σ' H' p'=>⟨xs.length - (i+1),by omega,rfl,hlt,p'⟩,fun x H' y=>?_⟩
  obtain⟨r,z,hr,rfl,rfl,hz⟩:=y
  exact hs i z σ _ r (hz _ q) p hr
 ·have e:i=xs.length:=by omega
  subst e
  exact .inl ⟨⟨xs,q,Nat.le_refl _⟩,hd σ H p⟩
theorem cI{a b:Str}(h:a.cps.toList=b.cps.toList):a=b:=by
 cases a
 cases b
 exact congrArg Str.mk (Array.toList_inj.mp h)
theorem qD{l:List Str}(x:Str)(h:l≠[]):Str.join " " (l++[x])=Str.join " " l++" "++x:=by
 apply cI
 rw [cr h (by simp),aG,aG]
 simp
 rfl
theorem kJ(l:List Str)(i:Nat):(Str.join " " (l.take i)).length≤(Str.join " " l).length:=by
 by_cases h1:l.take i=[]
 ·rw [h1]; exact Nat.zero_le _
 by_cases h2:l.drop i=[]
 ·have : l.take i=l:=by have:=List.take_append_drop i l; rw [h2,List.append_nil] at this; exact this
  rw [this]; exact Nat.le_refl _
 have:=cr h1 h2
 rw [List.take_append_drop] at this
 have e:=congrArg List.length this
 rw [List.length_append] at e
 rw [bJ,bJ]
 omega
def acc(ts:List Tr)(i:Nat):Str:=("(":Str)++Str.join " " ((ts.map wr).take i)
theorem kQ(ts:List Tr)(i:Nat):(acc ts i).length≤(Str.join " " (ts.map wr)).length+1:=by
 have:=kJ (ts.map wr) i
 unfold acc
 rw [bj]
 have l1:("(":Str).length=1:=rfl
 omega
theorem z7{ts:List Tr}{t:Tr}(h:ts[0]? = some t):acc ts 1=acc ts 0++wr t:=by
 cases ts with
 | nil=>cases h
 | cons a r=>
  simp at h; subst h
  apply cI
  unfold acc
  rw [aG,aG,aG]
  show _=_++[]++_
  rw [List.append_nil]
  rfl
theorem z6{ts:List Tr}{t:Tr}{i:Nat}(h:ts[i]? = some t)(hi:0<i):acc ts (i+1)=acc ts i++" "++wr t:=by
 have hl:i<ts.length:=(List.getElem?_eq_some_iff.mp h).1
 have e:(ts.map wr).take (i+1)=(ts.map wr).take i++[wr t]:=by
  rw [List.take_succ,List.getElem?_map,h]; rfl
 have n:(ts.map wr).take i≠[]:=by
  intro z
  have:=congrArg List.length z
  rw [List.length_take,List.length_map,List.length_nil] at this
  omega
 apply cI
 unfold acc
 rw [e,qD _ n]
 simp only [aG,List.append_assoc]
section
abbrev bF:Stmt:=top 63
theorem zcm:ak ["_law_thing","_law_row","_law_k","_law_one"] ["_law_thing"] (af bF):=by walk_at "F"
theorem lQ(F:am K mg "_law_written" bF ["_law_thing"])(Z:Bl mg)(n_enumerate:mg "enumerate"=none)(n:Nat)(D_law_written:Def P w K mg base "_law_written" (n+1) ["_law_thing"] (ju n)):Def P w K mg base "_law_written" (n+2) ["_law_thing"] (j6 n):=by
 have SC:=zcm
 refine F.mk' (k:=n+1) zcm (fun vs H Q E h=>?_) (fun f cdv A outer s H vs Q E hr h=>?_)
 ·obtain⟨v,t,rfl,_⟩:=h
  rfl
 ·obtain⟨v,t,rfl,ht,hn,hw,q⟩:=h
  refine'⟨_,?derivation,?_⟩
  case derivation=>(have:=aj 5 345 7 34; have:=aj 2 352 11 25; have:=aj 2 351 19 52; have:=aj 2 350 23 37; have:=aj 21 348 28 49; walk_at "S2")
  cases ht with
  | leaf x=>exact⟨_,rfl,_,_,_,rfl,.str _,bX K,true,rfl,ifT rfl ⟨_,rfl,by have:=q H (Same.refl _); rwa [wr] at this⟩⟩
  | node h r=>
   rename_i a xs ts
   have hd:dep (.node ts)=1+dE ts:=rfl
   rw [hd] at hn
   obtain⟨m,rfl⟩:∃ m,n=m+1:=⟨n-1,by omega⟩
   rw [j1] at hw
   have rl:=r.length
   refine⟨_,rfl,_,_,false,rfl,.tup h,rfl,false,rfl,bI ?_⟩
   refine⟨_,rfl,a,xs,rfl,SqT.of h,?_⟩
   refine qN (xs:=xs) (fun i σ H2=>∃ (v2 v3:Option V),σ=[some (.ref a),some (.str (acc ts i)),v2,v3]∧Same H H2) ⟨_,_,rfl,Same.refl _⟩ (fun i σ H2 _ ⟨_,_,_,z⟩=>SqT.of (z _ _ h)) ?_ ?_
   ·rintro i y σ H2 p hi ⟨v2,v3,rfl,s2⟩ hp
    obtain⟨t,ht,tt⟩:=r.get hi
    have dt:=bY (List.mem_of_getElem? ht)
    have lt:=join_mem_le " " (ts.map wr) (wr t) (List.mem_map.mpr ⟨t,List.mem_of_getElem? ht,rfl⟩)
    have s3:=s2.trans (ac hp (.tup [.int i,y]))
    refine⟨p,[.int i,y],rfl,SqT.of aa,rfl,?_⟩
    refine⟨_,_,rfl,_,_,rfl,rfl,?_⟩
    have go:∀ (z:Str),acc ts (i+1)=z++wr t→z.length≤1000004→j4
      (tOp (fun x y H Q=>rOp_add_strI x y H Q) (cT 1) (iw (ju (m+1)) [] E0 (d5 (cT 3) e7))) (aV 1)
      {nx:=fun σ H2=>∃ v2 v3,σ=[some (V.ref a),some (V.str (acc ts (i+1))),v2,v3]∧Same H H2,rt:=Q,bk:=y3 (tOp (fun x y H Q=>rOp_add_strI x y H Q) (cT 1) (tC (V.str (Str.ofString ")")))) {nx:=fun x H'=>Q V.non H',rt:=Q},ct:=fun σ H2=>∃ v2 v3,σ=[some (V.ref a),some (V.str (acc ts (i+1))),v2,v3]∧Same H H2}
      [some (.ref a),some (.str z),some (.int i),some y] (upd H2 p (.tup [.int i,y])):=by
     intro z ez zl
     refine⟨_,rfl,_,rfl,?_⟩
     unfold e7
     refine lh ⟨y,t,rfl,aX (Few.Same.tups s3) tt,by omega,by omega,fun H5 s5=>?_⟩
     have al:=kQ ts (i+1)
     rw [ez,bj] at al
     exact⟨_,_,rfl,rfl,Nat.le_trans (show z.length+(wr t).length≤1000004 by omega) (by decide),_,_,by rw [ez]; rfl,s3.trans s5⟩
    have ai:=kQ ts i
    have l1:(" ":Str).length=1:=rfl
    by_cases h0:0<i
    ·refine⟨_,rfl,_,_,rfl,rfl,_,rfl,ifT (by simp; omega) ?_⟩
     refine⟨_,rfl,_,_,rfl,rfl,Nat.le_trans (show (acc ts i).length+(" ":Str).length≤1000004 by omega) (by decide),?_⟩
     exact go _ (z6 ht h0) (by rw [bj]; omega)
    ·have : i=0:=by omega
     subst this
     refine⟨_,rfl,_,_,rfl,rfl,_,rfl,ifF (by simp) ?_⟩
     exact go _ (z7 ht) (by omega)
   ·rintro σ H2 ⟨v2,v3,rfl,s2⟩
    have el:(ts.map wr).take xs.length=ts.map wr:=List.take_of_length_le (by rw [List.length_map]; omega)
    have al:=kQ ts xs.length
    have l2:(")":Str).length=1:=rfl
    refine⟨_,rfl,_,_,rfl,rfl,Nat.le_trans (show _+(")":Str).length≤1000004 by omega) (by decide),?_⟩
    have:=q H2 s2
    rw [ie] at this
    unfold acc
    rw [el]
    exact this
theorem yt(F:am K mg "_law_written" bF ["_law_thing"]):Def P w K mg base "_law_written" 1 ["_law_thing"] (ju 0):=
 F.mk' (k:=0) zcm (fun vs H Q E h=>False.elim h) fun f cdv A outer s H vs Q E hr h=>False.elim h
theorem xo(F:am K mg "_law_written" bF ["_law_thing"])(Z:Bl mg)(n_enumerate:mg "enumerate"=none):∀ n,Def P w K mg base "_law_written" (n+2) ["_law_thing"] (j6 n)
 | 0=>lQ F Z n_enumerate 0 (yt F)
 | n+1=>lQ F Z n_enumerate (n+1) (xo F Z n_enumerate n)
end
structure ScL(H:Hp)(a:Addr)(ps:List (Str×Str)):Prop where
 ex:∃ bs:List Addr,H a=some (.lst (bs.map V.ref))∧Paired (fun b q=>H b=some (.tup [.str q.1,.str q.2])) bs ps
def bH(ps:List (Str×Str)):Str→Option Str:=ps.foldl (fun S q=>cm S q.1 q.2) fun _=>none
theorem fE{α β:Type}{F:α→β→Prop}:∀ {a:List α} {b:List β} {i:Nat} {x:α},Paired F a b→a[i]? = some x→∃ y,b[i]? = some y∧F x y
 | _,_,_,_,.nil,h=>by simp at h
 | _,_,0,_,.cons f _,h=>by simp at h; subst h; exact⟨_,rfl,f⟩
 | _,_,i+1,_,.cons _ r,h=>by simpa using fE (i:=i) r (by simpa using h)
theorem nQ{ps:List (Str×Str)}{i:Nat}{q:Str×Str}(h:ps[i]? = some q):bH (ps.take (i+1))=cm (bH (ps.take i)) q.1 q.2:=by
 unfold bH
 rw [List.take_succ,h,Option.toList_some,List.foldl_append]
 rfl
theorem uu{kvs:List (Key×V)}{k:Key}{v:V}{q:Key×V}(h:q∈putK kvs k v):q.1=k∨∃ r∈kvs,r.1=q.1:=by
 unfold putK at h
 split at h
 ·obtain⟨r,hr,e⟩:=List.mem_map.mp h
  refine .inr ⟨r,hr,?_⟩
  rw [← e]
  split <;> rfl
 ·rcases List.mem_append.mp h with h | h
  ·exact .inr ⟨q,h,rfl⟩
  ·rw [List.mem_singleton.mp h]; exact .inl rfl
def ScM(H:Hp)(d:Addr)(S:Str→Option Str)(n:Nat):Prop:=∃ kvs:List (Key×V),H d=some (.dK kvs)∧kvs.length≤n∧(∀ x:Str,bo kvs (.inr x)=(S x).map V.str)∧∀ q∈kvs,∃ x k,q.1=.inr x∧S x=some k
theorem ScM.put{H:Hp}{d:Addr}{S:Str→Option Str}{n:Nat}{kvs:List (Key×V)}(e2:∀ x:Str,bo kvs (.inr x)=(S x).map V.str)(e3:∀ q∈kvs,∃ x k,q.1=.inr x∧S x=some k)(el:kvs.length≤n)(xn kd:Str):ScM (upd H d (.dK (putK kvs (.inr xn) (.str kd)))) d (cm S xn kd) (n+1):=by
 refine⟨_,aa,Nat.le_trans (bg _ _ _) (by omega),fun y=>?_,fun q hq=>?_⟩
 ·rw [ir]
  unfold cm
  by_cases hy:y=xn
  ·rw [if_pos (by rw [hy]),if_pos hy]; rfl
  ·rw [if_neg (fun z=>hy (Sum.inr.inj z)),if_neg hy]; exact e2 y
 ·rcases uu hq with e | ⟨r,hr,e⟩
  ·exact⟨xn,kd,e,by unfold cm; rw [if_pos rfl]⟩
  ·obtain⟨x,k,ex,ek⟩:=e3 r hr
   rw [← e]
   by_cases hy:x=xn
   ·exact⟨x,kd,ex,by unfold cm; rw [if_pos hy]⟩
   ·exact⟨x,k,ex,by unfold cm; rw [if_neg hy]; exact ek⟩
section
abbrev eh:Stmt:=top 55
theorem zcn:ak ["_law_scope","_law_made","_law_name","_law_kind"] ["_law_scope"] (af eh):=by walk_at "F"
inductive spMeantI(vs:List V)(H:Hp)(Q:VK):Prop where
 | mk:∀ (a:Addr) (ps:List (Str×Str)),vs=[.ref a]→ScL H a ps→ps.length≤3→(∀ d H',ScM H' d (bH ps) ps.length→Same H H'→H d=none→Q (.ref d) H')→spMeantI vs H Q
def oW:Sp:=fun vs H Q _=>spMeantI vs H Q
theorem tY(F:am K mg "_law_meant" eh ["_law_scope"])(Z:Bl mg):Def P w K mg base "_law_meant" 1 ["_law_scope"] oW:=by
 have SC:=zcn
 refine F.mk' (k:=0) zcn (fun vs H Q E h=>?_) (fun f cdv A outer s H vs Q E hr h=>?_)
 ·obtain⟨a,ps,rfl,_⟩:=h
  rfl
 ·obtain⟨a,ps,rfl,⟨bs,ha,hp⟩,hl,q⟩:=h
  refine'⟨_,?derivation,?_⟩
  case derivation=>(have:=aj 20 287 8 40; walk_at "S2")
  refine fun d hd=>?_
  have s1:=ac hd (.dK [])
  have pl:=Paired.length hp
  refine⟨_,rfl,a,rfl,⟨_,SqL.of (s1 _ _ ha)⟩,?_⟩
  refine dC (K:=K) (a:=a) (xs:=bs.map V.ref) (fun i σ H2=>∃ (v2 v3:Option V),σ=[some (.ref a),some (.ref d),v2,v3]∧Same H H2∧ScM H2 d (bH (ps.take i)) i)
   ⟨_,_,rfl,s1,[],aa,Nat.le_refl _,fun _=>rfl,fun _ z=>nomatch z⟩ (fun i σ H2 _ ⟨_,_,_,y,_⟩=>SqL.of (y _ _ ha)) ?_ ?_
  ·rintro i y σ H2 hi ⟨v2,v3,rfl,s2,kvs,e1,el,e2,e3⟩
   rw [List.getElem?_map] at hi
   obtain⟨b,hb,rfl⟩:=Option.map_eq_some_iff.mp hi
   obtain⟨pr,hpr,hat⟩:=fE hp hb
   have hil:i<ps.length:=(List.getElem?_eq_some_iff.mp hpr).1
   refine⟨b,_,rfl,SqT.of (s2 _ _ hat),rfl,_,_,rfl,_,_,rfl,rfl,?_⟩
   refine⟨_,rfl,_,rfl,_,rfl,d,_,rfl,rc.k (k:=.inr pr.1) e1 (Nat.lt_of_le_of_lt (show kvs.length≤100 by omega) (by decide)),?_⟩
   refine⟨_,_,rfl,fun c o e=>by rw [ad (ae e hd)]; exact s2 c o e,?_⟩
   rw [nQ hpr]
   exact ScM.put e2 e3 el _ _
  ·rintro σ H2 ⟨v2,v3,rfl,s2,m2⟩
   rw [List.length_map,pl,List.take_length] at m2
   exact⟨_,rfl,q d H2 m2 s2 hd⟩
end
mutual
inductive Lk:Tr→PyData→Prop where
 | leaf (x:Str):Lk (.leaf x) (.str x)
 | lst {ts:List Tr} {ds:List PyData}:LkA ts ds→Lk (.node ts) (.list ds)
 | tup {ts:List Tr} {ds:List PyData}:LkA ts ds→Lk (.node ts) (.tuple ds)
inductive LkA:List Tr→List PyData→Prop where
 | nil:LkA [] []
 | cons {t:Tr} {d:PyData} {ts:List Tr} {ds:List PyData}:Lk t d→LkA ts ds→LkA (t::ts) (d::ds)
end
mutual
def dT:Tr→PyData
 | .leaf x=>.str x
 | .node ts=>.tuple (dTA ts)
def dTA:List Tr→List PyData
 | []=>[]
 | t::ts=>dT t::dTA ts
end
mutual
theorem pi{H:Hp}:∀ {v:V} {t:Tr},Mix H v t→∃ d,eK H v d∧Lk t d
 | _,_,.leaf x=>⟨_,.str x,.leaf x⟩
 | _,_,.node (.inl h) r=>let ⟨ds,a,b⟩:=iR r; ⟨_,.lst h a,.lst b⟩
 | _,_,.node (.inr h) r=>let ⟨ds,a,b⟩:=iR r; ⟨_,.tup h a,.tup b⟩
theorem iR{H:Hp}:∀ {v:List V} {t:List Tr},bE H v t→∃ d,fO H v d∧LkA t d
 | _,_,.nil=>⟨_,.nil,.nil⟩
 | _,_,.cons h r=>let ⟨_,a,b⟩:=pi h; let ⟨_,c,d⟩:=iR r; ⟨_,.cons a c,.cons b d⟩
end
mutual
theorem uY{H:Hp}:∀ {v:V} {t:Tr},Tup H v t→eK H v (dT t)
 | _,_,.leaf x=>by rw [dT]; exact .str x
 | _,_,.node h r=>by rw [dT]; exact .tup h (dY r)
theorem dY{H:Hp}:∀ {v:List V} {t:List Tr},aQ H v t→fO H v (dTA t)
 | _,_,.nil=>by rw [dTA]; exact .nil
 | _,_,.cons h r=>by rw [dTA]; exact .cons (uY h) (dY r)
end
mutual
theorem z5:∀ t:Tr,Lk t (dT t)
 | .leaf x=>by rw [dT]; exact .leaf x
 | .node ts=>by rw [dT]; exact .tup (on ts)
theorem on:∀ t:List Tr,LkA t (dTA t)
 | []=>by rw [dTA]; exact .nil
 | t::ts=>by rw [dTA]; exact .cons (z5 t) (on ts)
end
mutual
theorem lI{H H':Hp}(s:Same H H'):∀ {v:V} {d:PyData},eK H v d→eK H' v d
 | _,_,.non=>.non
 | _,_,.bl b=>.bl b
 | _,_,.int i=>.int i
 | _,_,.str x=>.str x
 | _,_,.lst e r=>.lst (s _ _ e) (gH s r)
 | _,_,.tup e r=>.tup (s _ _ e) (gH s r)
theorem gH{H H':Hp}(s:Same H H'):∀ {v:List V} {d:List PyData},fO H v d→fO H' v d
 | _,_,.nil=>.nil
 | _,_,.cons h r=>.cons (lI s h) (gH s r)
end
mutual
theorem zco:∀ {t:Tr} {d:PyData},Lk t d→d.showable=true
 | _,_,.leaf x=>by simp only [PyData.showable]
 | _,_,.lst r=>by simp only [PyData.showable]; exact dN r
 | _,_,.tup r=>by simp only [PyData.showable]; exact dN r
theorem dN:∀ {t:List Tr} {d:List PyData},LkA t d→PyData.showableAll d=true
 | _,_,.nil=>by simp only [PyData.showableAll]
 | _,_,.cons h r=>by simp only [PyData.showableAll,zco h,dN r,Bool.and_self]
end
mutual
theorem zcp:∀ {t:Tr} {d:PyData},Lk t d→d.hasDict=false
 | _,_,.leaf x=>by simp only [PyData.hasDict]
 | _,_,.lst r=>by simp only [PyData.hasDict]; exact fG r
 | _,_,.tup r=>by simp only [PyData.hasDict]; exact fG r
theorem fG:∀ {t:List Tr} {d:List PyData},LkA t d→PyData.hasDictAll d=false
 | _,_,.nil=>by simp only [PyData.hasDictAll]
 | _,_,.cons h r=>by simp only [PyData.hasDictAll,zcp h,fG r,Bool.or_self]
end
mutual
theorem zcq:∀ {t:Tr} {d:PyData},Lk t d→d.depth=dep t
 | _,_,.leaf x=>by rw [PyData.depth,dep]
 | _,_,.lst r=>by rw [PyData.depth,dep,gM r,Nat.add_comm]
 | _,_,.tup r=>by rw [PyData.depth,dep,gM r,Nat.add_comm]
theorem gM:∀ {t:List Tr} {d:List PyData},LkA t d→PyData.depthAll d=dE t
 | _,_,.nil=>by rw [PyData.depthAll,dE]
 | _,_,.cons h r=>by rw [PyData.depthAll,dE,zcq h,gM r]
end
section
abbrev cK:Stmt:=top 56
theorem zcr:ak ["_law_pot_here","_law_scope","_law_kind","_law_meant_here","_law_names"] ["_law_pot_here","_law_scope","_law_kind"] (af cK):=by walk_at "F"
inductive spVarI(vs:List V)(H:Hp)(Q:VK):Prop where
 | mk:∀ (p a:Addr) (ps:List (Str×Str)) (kd:Str),vs=[.ref p,.ref a,.str kd]→bc H p→ScL H a ps→ps.length≤3→(∀ v H',(v=.non∨∃ x,v=.str x∧bH ps x=some kd)→av p H H'→Q v H')→spVarI vs H Q
def rQ:Sp:=fun vs H Q _=>spVarI vs H Q
theorem yo(F:am K mg "_law_variable" cK ["_law_pot_here","_law_scope","_law_kind"])(Z:Bl mg)(D_law_draw:Def P w K mg base "_law_draw" 1 ["_law_pot_here","_law_many"] ca)(D_law_meant:Def P w K mg base "_law_meant" 1 ["_law_scope"] oW):Def P w K mg base "_law_variable" 2 ["_law_pot_here","_law_scope","_law_kind"] rQ:=by
 have SC:=zcr
 refine F.mk' (k:=1) zcr (fun vs H Q E h=>?_) (fun f cdv A outer s H vs Q E hr h=>?_)
 ·obtain⟨p,a,ps,kd,rfl,_⟩:=h
  rfl
 ·obtain⟨p,a,ps,kd,rfl,hp,hs,hl,q⟩:=h
  refine'⟨_,?derivation,?_⟩
  case derivation=>(have:=aj 22 292 7 23; have:=aj 17 291 64 90; have:=aj 23 291 45 60; have:=aj 24 291 4 104; have:=aT 291 4 104 1 ["_law_name","_law_pot_here","_law_scope","_law_kind","_law_meant_here","_law_names"]; have:=aj 25 292 7 23; walk_at "S2")
  refine⟨_,rfl,a,ps,rfl,hs,hl,fun d H1 hm s1 hd=>?_⟩
  obtain⟨kvs,e1,el,e2,e3⟩:=hm
  refine⟨d,kvs,e1,fun ob=>?_⟩
  have lz:kvs.length≤sizeLine:=Nat.le_trans (show kvs.length≤3 by omega) (by decide)
  generalize hF:upd H1 d (.frz ob (.dK kvs))=HF
  have eF:HF d=some (.frz ob (.dK kvs)):=by rw [← hF]; exact aa
  refine⟨_,rfl,d,ob,kvs,rfl,eF,fun cl C ex s0 Hc=>?_⟩
  refine⟨fun i m ys σ' H2=>H2=HF∧m=kvs.length-i∧i≤kvs.length∧ys.length≤i∧(∃ v0,σ'=[v0,some (.ref p),some (.ref a),some (.str kd),some (.ref d),none])∧∀ y∈ys,∃ x,y=.str x∧bH ps x=some kd,⟨_,rfl,rfl,Nat.zero_le _,Nat.le_refl _,⟨_,rfl⟩,fun _ z=>nomatch z⟩,?_⟩
  rintro i m ys σ' H2 ⟨rfl,rfl,hi,hy,⟨v0,rfl⟩,hall⟩
  by_cases hlt:i<kvs.length
  ·refine .inr ⟨⟨kvs,eF,hlt⟩,by omega,fun x H' hyl=>?_⟩
   obtain⟨rfl,hx⟩:=hyl
   obtain⟨kv,ek,rfl⟩:=hx kvs eF
   obtain⟨z,k,ez,hz⟩:=e3 kv (List.mem_of_getElem? ek)
   rw [ez]
   have hv:bo kvs (.inr z)=some (.str k):=by rw [e2,hz]; rfl
   refine⟨_,rfl,_,rfl,d,.str k,rfl,?_,_,rfl,rfl,_,rfl,?_⟩
   ·rw [← hv]; exact .inl ⟨kvs,.inr z,.inr ⟨ob,eF⟩,rfl,rfl⟩
   ·by_cases hk:k=kd
    ·subst hk
     refine ifT (by simp) ⟨fun v H3=>v=.str z∧H3=H',⟨_,rfl,rfl,rfl⟩,?_⟩
     rintro v H3 ⟨rfl,rfl⟩
     refine⟨_,?_,rfl,rfl,hlt,by rw [List.length_append,List.length_singleton]; omega,⟨_,rfl⟩,fun y hy'=>?_⟩
     ·omega
     ·rcases List.mem_append.mp hy' with h | h
      ·exact hall y h
      ·rw [List.mem_singleton.mp h]; exact⟨z,rfl,hz⟩
    ·refine ifF (by simp [hk]) ⟨_,?_,rfl,rfl,hlt,by omega,⟨_,rfl⟩,hall⟩
     omega
  ·obtain rfl:i=kvs.length:=by omega
   refine .inl ⟨⟨kvs,eF,rfl⟩,fun D hD=>?_⟩
   have nD:D≠d:=Ne.symm (ae eF hD)
   have hD1:H1 D=none:=by rw [← hF,ad nD] at hD; exact hD
   refine⟨by rw [ad (Ne.symm nD)]; exact eF,?_⟩
   generalize hG:upd (upd H2 D (.lst ys)) d (.dK kvs)=HG
   have gD:HG D=some (.lst ys):=by rw [← hG,ad nD]; exact aa
   have sG:Same H1 HG:=fun b o e=>by
    by_cases hb:b=d
    ·subst hb
     rw [e1] at e
     rw [← hG,← e]; exact aa
    ·rw [← hG,ad hb,ad (ae e hD1),← hF,ad hb]; exact e
   refine⟨_,rfl,Nat.zero_le _,fun l hl'=>⟨D,l,ys,rfl,rfl,SqL.of (by rw [ad (ae gD hl')]; exact gD),SqL.of aa,_,rfl,?_⟩⟩
   have s2:Same H (upd HG l (.lst [])):=(s1.trans sG).trans (ac hl' _)
   have wt:av p H (upd HG l (.lst [])):=⟨hp.keep s2,s2.x⟩
   cases ys with
   | nil=>exact ifT rfl (q _ _ (.inl rfl) wt)
   | cons y0 yr=>
    refine ifF (by simp) ?_
    have gD2:upd HG l (.lst []) D=some (.lst (y0::yr)):=by rw [ad (ae gD hl')]; exact gD
    have ply:(y0::yr).length≤3:=by omega
    refine⟨_,rfl,_,rfl,_,rfl,D,_,rfl,.inl (SqL.of gD2),?_⟩
    refine⟨p,_,rfl,wt.pot,by simp <;> omega,by simp at ply ⊢ <;> omega,fun r H3 r0 r1 p3 s3=>?_⟩
    have nDp:D≠p:=fun z=>by
     have:=s1.trans sG
     obtain⟨o,e⟩:=hp.some
     have e':=s1 _ _ e
     rw [← z,hD1] at e'; cases e'
    have hr1:r.toNat<(y0::yr).length:=by omega
    refine⟨D,_,r,(y0::yr)[r.toNat],rfl,rfl,SqL.of (s3 _ _ nDp gD2),bL r0 (by simp [hr1]),?_⟩
    obtain⟨x,ex,hx⟩:=hall _ (List.getElem_mem hr1)
    exact q _ _ (.inr ⟨x,ex,hx⟩) (wt.mk1 p3 s3)
end
mutual
def sz:Tr→Nat
 | .leaf x=>x.length
 | .node ts=>szA ts+3
def szA:List Tr→Nat
 | []=>0
 | t::ts=>sz t+1+szA ts
end
mutual
def low:Tr→Prop
 | .leaf x=>∀ c∈x.cps.toList,c<16 ^ 8
 | .node ts=>wo ts
def wo:List Tr→Prop
 | []=>True
 | t::ts=>low t∧wo ts
end
structure Fit(D W:Nat)(t:Tr):Prop where
 dp:dep t≤D
 wt:sz t≤W
 lw:low t
structure bN(D W:Nat)(t:List Tr):Prop where
 dp:dE t≤D
 wt:szA t≤W
 lw:wo t
theorem Fit.mono{D D' W W':Nat}{t:Tr}(h:Fit D W t)(h1:D≤D')(h2:W≤W'):Fit D' W' t:=⟨Nat.le_trans h.dp h1,Nat.le_trans h.wt h2,h.lw⟩
theorem bN.mono{D D' W W':Nat}{t:List Tr}(h:bN D W t)(h1:D≤D')(h2:W≤W'):bN D' W' t:=⟨Nat.le_trans h.dp h1,Nat.le_trans h.wt h2,h.lw⟩
theorem bN.nil{D:Nat}:bN D 0 []:=⟨Nat.zero_le _,Nat.le_refl _,trivial⟩
theorem bN.cons{D W W':Nat}{t:Tr}{ts:List Tr}(h:Fit D W t)(r:bN D W' ts):bN D (W+1+W') (t::ts):=⟨Nat.max_le.mpr ⟨h.dp,r.dp⟩,by rw [szA]; have:=h.wt; have:=r.wt; omega,h.lw,r.lw⟩
theorem bN.all{D W n:Nat}:∀ {ts:List Tr},(∀ t∈ts,Fit D W t)→ts.length≤n→bN D (n*(W+1)) ts
 | [],_,_=>bN.nil.mono (Nat.le_refl _) (Nat.zero_le _)
 | t::ts,h,hn=>by
  rw [List.length_cons] at hn
  obtain⟨m,rfl⟩:∃ m,n=m+1:=⟨n-1,by omega⟩
  refine(bN.cons (h t List.mem_cons_self) (bN.all (n:=m) (fun x hx=>h x (List.mem_cons_of_mem _ hx)) (by omega))).mono (Nat.le_refl _) ?_
  rw [Nat.add_mul,Nat.one_mul]
  omega
theorem Fit.node{D W:Nat}{ts:List Tr}(h:bN D W ts):Fit (D+1) (W+3) (.node ts):=⟨by rw [dep]; have:=h.dp; omega,by rw [sz]; have:=h.wt; omega,h.lw⟩
theorem Fit.nm{z:Str}(h:aK z):Fit 0 12 (.leaf z):=⟨Nat.le_refl _,by rw [sz,bJ]; exact h.2.1,fun c hc=>by have:=h.2.2 c hc; omega⟩
theorem Fit.wd:∀ z∈[("=":Str),"not","and","or","all","some"],Fit 0 4 (.leaf z):=by
 have : ∀ z∈[("=":Str),"not","and","or","all","some"],z.length≤4∧∀ c∈z.cps.toList,c<16 ^ 8:=by decide +kernel
 exact fun z hz=>⟨Nat.le_refl _,(this z hz).1,(this z hz).2⟩
theorem gi:∀ l:List Str,(Str.join " " l).length≤(l.map fun x=>x.length+1).sum
 | []=>Nat.le_refl _
 | [a]=>by
  show a.length≤a.length+1+0
  omega
 | a::b::r=>by
  have ih:=gi (b::r)
  have e:Str.join " " (a::b::r)=a++" "++Str.join " " (b::r):=by
   apply cI
   have:=cr (A:=[a]) (B:=b::r) (by simp) (by simp)
   rw [aG,aG,List.append_assoc]
   exact this.trans rfl
  rw [e,bj,bj,List.map_cons,List.sum_cons]
  have : (" ":Str).length=1:=rfl
  omega
mutual
theorem jj:∀ t:Tr,(wr t).length≤sz t
 | .leaf x=>by rw [wr,sz]; exact Nat.le_refl _
 | .node ts=>by
  rw [j1,sz]
  have:=gi (ts.map wr)
  have:=re ts
  omega
theorem re:∀ ts:List Tr,((ts.map wr).map fun x=>x.length+1).sum≤szA ts
 | []=>Nat.le_refl _
 | t::ts=>by
  rw [List.map_cons,List.map_cons,List.sum_cons,szA]
  have:=jj t
  have:=re ts
  omega
end
mutual
theorem zcs:∀ {t:Tr} {d:PyData},Lk t d→d.weight≤sz t
 | _,_,.leaf x=>by rw [PyData.weight,sz]; exact Nat.le_refl _
 | _,_,.lst r=>by rw [PyData.weight,sz]; have:=nY r; omega
 | _,_,.tup r=>by rw [PyData.weight,sz]; have:=nY r; omega
theorem nY:∀ {t:List Tr} {d:List PyData},LkA t d→PyData.weightAll d≤szA t
 | _,_,.nil=>by rw [PyData.weightAll,szA]; exact Nat.le_refl _
 | _,_,.cons h r=>by rw [PyData.weightAll,szA]; have:=zcs h; have:=nY r; omega
end
mutual
theorem zct:∀ {t:Tr} {d:PyData},Lk t d→low t→d.leavesShort 8=true
 | _,_,.leaf x,l=>by
  simp only [PyData.leavesShort,List.all_eq_true,decide_eq_true_eq]
  exact l
 | _,_,.lst r,l=>by simp only [PyData.leavesShort]; exact kH r l
 | _,_,.tup r,l=>by simp only [PyData.leavesShort]; exact kH r l
theorem kH:∀ {t:List Tr} {d:List PyData},LkA t d→wo t→PyData.leavesShortAll 8 d=true
 | _,_,.nil,_=>by simp only [PyData.leavesShortAll]
 | _,_,.cons h r,l=>by simp only [PyData.leavesShortAll,zct h l.1,kH r l.2,Bool.and_self]
end
theorem Fit.shows{D W:Nat}{t:Tr}{d:PyData}(h:Fit D W t)(l:Lk t d)(hD:D≤60)(hW:W≤2 ^ 20):d.showable=true∧d.hasDict=false∧d.depth≤60∧d.shown.length≤sizeLine:=
 ⟨zco l,zcp l,by rw [zcq l]; exact Nat.le_trans h.dp hD,PyData.shown_fits (B:=8) (by decide) (by decide) (zct l h.lw) (Nat.le_trans (Nat.le_trans (zcs l) h.wt) hW)⟩
abbrev i9(H:Hp)(p b:Addr)(ks:List Str)(ts:List ar)(fs:List aq):Prop:=RdV (fun a=>a≠p) H (.ref b) (gm ks ts fs)
theorem RdV.went{p:Addr}{H H':Hp}{v:V}{d:PyData}(h:RdV (fun a=>a≠p) H v d)(s:ax p H H'):RdV (fun a=>a≠p) H' v d:=h.mono (fun _ z=>z) fun a o z e=>s a o z e
theorem i9.open{H:Hp}{p b:Addr}{ks:List Str}{ts:List ar}{fs:List aq}(h:i9 H p b ks ts fs):∃ k t f tv fv,H b=some (.tup [.ref k,.ref t,.ref f])∧k≠p∧H k=some (.lst (ks.map V.str))∧t≠p∧H t=some (.lst tv)∧RdA (fun a=>a≠p) H tv (ts.map j3)∧f≠p∧H f=some (.lst fv)∧RdA (fun a=>a≠p) H fv (fs.map jh):=by
 obtain⟨_,xs,e,_,h1,h2⟩:=RdV.tuple_inv h
 cases e
 obtain⟨x,y,z,rfl,hx,hy,hz⟩:=h2.three
 obtain⟨k,kx,rfl,nk,h3,h4⟩:=hx.list_inv
 obtain rfl:=h4.strs_inv
 obtain⟨t,tx,rfl,nt,h5,h6⟩:=hy.list_inv
 obtain⟨f,fx,rfl,nf,h7,h8⟩:=hz.list_inv
 exact⟨k,t,f,tx,fx,h1,nk,h3,nt,h5,h6,nf,h7,h8⟩
theorem ku{H:Hp}{p a:Addr}{o:HO}(hp:bc H p)(e:H a=some o)(n:∀ x y z:Int,o≠.lst [.int x,.int y,.int z]):a≠p:=by
 rintro rfl
 obtain⟨x,y,z,e',_⟩:=hp
 rw [e] at e'
 exact n x y z (Option.some.inj e')
theorem bV{p:Addr}{H H':Hp}(h:bc H p)(s:ax p H H'):cP H H':=fun a xs e=>s a _ (ku h e (fun _ _ _ z=>nomatch z)) e
theorem ScL.went{H H':Hp}{p a:Addr}{ps:List (Str×Str)}(h:ScL H a ps)(hp:bc H p)(s:ax p H H'):ScL H' a ps:=by
 obtain⟨bs,e,r⟩:=h.ex
 refine⟨bs,s _ _ (ku hp e fun x y z q=>?_) e,Paired.mapP r fun b q z=>bV hp s _ _ z⟩
 cases bs with
 | nil=>injection q with q; cases q
 | cons b r=>injection q with q; injection q with q; cases q
theorem qw{x k:Str}{ps:List (Str×Str)}(h:bH ps x=some k):∃ q∈ps,q=(x,k):=by
 have : ∀ (ps:List (Str×Str)) (S:Str→Option Str),(ps.foldl (fun S q=>cm S q.1 q.2) S) x=some k→S x=some k∨∃ q∈ps,q=(x,k):=by
  intro ps
  induction ps with
  | nil=>exact fun S h=>.inl h
  | cons q r ih=>
   intro S h
   rcases ih _ h with h | ⟨q',hq,e⟩
   ·have h:(if x=q.1 then some q.2 else S x)=some k:=h
    by_cases hx:x=q.1
    ·rw [if_pos hx] at h
     exact .inr ⟨q,List.mem_cons_self,by rw [hx,← Option.some.inj h]⟩
    ·rw [if_neg hx] at h; exact .inl h
   ·exact .inr ⟨q',List.mem_cons_of_mem _ hq,e⟩
 rcases this ps _ h with z | z
 ·cases z
 ·exact z
theorem nR(ps:List (Str×Str))(x k:Str):bH (ps++[(x,k)])=cm (bH ps) x k:=by
 unfold bH
 rw [List.foldl_append]
 rfl
def bT:Nat→Nat
 | 0=>12
 | n+1=>18+2*bT n
theorem xB:∀ n,12≤bT n
 | 0=>Nat.le_refl _
 | n+1=>by rw [bT]; have:=xB n; omega
theorem jO{p:Addr}{H:Hp}{v:V}{g:aq}(h:RdV (fun a=>a≠p) H v (jh g)):∃ q pl,v=.ref q∧H q=some (.tup [.str g.nm,.ref pl,.str g.kd])∧pl≠p∧H pl=some (.lst (g.ps.map V.str)):=by
 obtain⟨q1,qx,rfl,_,h1,h2⟩:=RdV.tuple_inv h
 obtain⟨u,v,x,rfl,hu,hv,hx⟩:=h2.three
 obtain rfl:=hu.str_inv
 obtain rfl:=hx.str_inv
 obtain⟨q2,qy,rfl,n2,h3,h4⟩:=hv.list_inv
 obtain rfl:=h4.strs_inv
 exact⟨q1,q2,rfl,h1,n2,h3⟩
theorem pR{p:Addr}{H:Hp}{v:V}{g:ar}(h:RdV (fun a=>a≠p) H v (j3 g)):∃ q pl,v=.ref q∧H q=some (.tup [.str g.nm,.ref pl])∧pl≠p∧H pl=some (.lst (g.ps.map V.str)):=by
 obtain⟨q1,qx,rfl,_,h1,h2⟩:=RdV.tuple_inv h
 obtain⟨u,v,rfl,hu,hv⟩:=h2.two
 obtain rfl:=hu.str_inv
 obtain⟨q2,qy,rfl,n2,h3,h4⟩:=hv.list_inv
 obtain rfl:=h4.strs_inv
 exact⟨q1,q2,rfl,h1,n2,h3⟩
section
abbrev cM:Stmt:=top 57
theorem zcu:ak ["_law_pot_here","_law_book_here","_law_scope","_law_kind","_law_deep","_law_some","_law_variable_here","_law_function","_law_terms"] ["_law_pot_here","_law_book_here","_law_scope","_law_kind","_law_deep"] (af cM):=by walk_at "F"
def cU(fs:List aq)(ps:List (Str×Str))(kd:Str)(n:Nat)(H:Hp)(v:V):Prop:=v=.non∨∃ t,Tup H v t∧gr fs (bH ps) t kd∧Fit n (bT n) t
theorem cU.keep{fs:List aq}{ps:List (Str×Str)}{kd:Str}{n:Nat}{H H':Hp}{v:V}(h:cU fs ps kd n H v)(s:cP H H'):cU fs ps kd n H' v:=by
 rcases h with h | ⟨t,h1,h2⟩
 ·exact .inl h
 ·exact .inr ⟨t,aX s h1,h2⟩
theorem cU.thg{K:PySem.W.Frag}{fs:List aq}{ps:List (Str×Str)}{kd:Str}{n:Nat}{H:Hp}{v:V}(h:cU fs ps kd n H v):Thg K H v:=by
 rcases h with h | ⟨t,h1,h2⟩
 ·exact .inl h
 ·cases h1 with
  | leaf x=>exact .inr (.inl ⟨x,rfl⟩)
  | node e r=>exact .inr (.inr ⟨_,_,rfl,SqT.of e⟩)
theorem bf{α β:Type}{F:α→β→Prop}{x:α}{y:β}(h:F x y):∀ {a:List α} {b:List β},Paired F a b→Paired F (a++[x]) (b++[y])
 | _,_,.nil=>.cons h .nil
 | _,_,.cons f r=>.cons f (bf h r)
theorem fC{α β:Type}{F:α→β→Prop}{x:α}:∀ {a:List α} {b:List β},Paired F a b→x∈a→∃ y∈b,F x y
 | _,_,.nil,h=>by cases h
 | _,_,.cons f r,h=>by
  rcases List.mem_cons.mp h with rfl | h
  ·exact⟨_,List.mem_cons_self,f⟩
  ·obtain⟨y,hy,q⟩:=fC r h
   exact⟨y,List.mem_cons_of_mem _ hy,q⟩
theorem om{fs:List aq}{ps:List (Str×Str)}{n:Nat}{H:Hp}:∀ {ys:List V} {ks:List Str},Paired (fun y k=>cU fs ps k n H y) ys ks→(ys.any fun v=>decide (v=.non))=false→∃ l,aQ H ys l∧bZ fs (bH ps) l ks∧∀ t∈l,Fit n (bT n) t
 | _,_,.nil,_=>⟨[],.nil,.nil,fun _ z=>nomatch z⟩
 | _,_,.cons f r,h=>by
  rw [List.any_cons,Bool.or_eq_false_iff] at h
  obtain⟨l,h1,h2,h3⟩:=om r h.2
  rcases f with rfl | ⟨t,a1,a2,a3⟩
  ·exact absurd h.1 (by simp)
  ·refine⟨t::l,.cons a1 h1,.cons a2 h2,fun u hu=>?_⟩
   rcases List.mem_cons.mp hu with rfl | hu
   ·exact a3
   ·exact h3 u hu
inductive spTmDI(n:Nat)(vs:List V)(H:Hp)(Q:VK):Prop where
 | mk:∀ (p b a:Addr) (ps:List (Str×Str)) (kd:Str) (ks:List Str) (ts:List ar) (fs:List aq),vs=[.ref p,.ref b,.ref a,.str kd,.int n]→bc H p→i9 H p b ks ts fs→au ks ts fs→ScL H a ps→ps.length≤3→((∀ q∈ps,aK q.1))→(∀ v H',cU fs ps kd n H' v→av p H H'→Q v H')→spTmDI n vs H Q
def lp(n:Nat):Sp:=fun vs H Q _=>spTmDI n vs H Q
def m8:Nat→Sp
 | 0=>fun _ _ _ _=>False
 | n+1=>lp n
theorem pV{m:Nat}{vs:List V}{H:Hp}{Q:VK}{E:XK}(h:lp m vs H Q E):m8 (m+1) vs H Q E:=h
theorem jD(F:am K mg "_law_term" cM ["_law_pot_here","_law_book_here","_law_scope","_law_kind","_law_deep"])(Z:Bl mg)(D_law_draw:Def P w K mg base "_law_draw" 1 ["_law_pot_here","_law_many"] ca)(D_law_variable:Def P w K mg base "_law_variable" 2 ["_law_pot_here","_law_scope","_law_kind"] rQ)(n:Nat)
  (D_law_term:Def P w K mg base "_law_term" (n+2) ["_law_pot_here","_law_book_here","_law_scope","_law_kind","_law_deep"] (m8 n)):Def P w K mg base "_law_term" (n+3) ["_law_pot_here","_law_book_here","_law_scope","_law_kind","_law_deep"] (lp n):=by
 have SC:=zcu
 refine F.mk' (k:=n+2) zcu (fun vs H Q E h=>?_) (fun f cdv A outer s H vs Q E hr h=>?_)
 ·obtain⟨p,b,a,ps,kd,ks,ts,fs,rfl,_⟩:=h
  rfl
 ·obtain⟨p,b,a,ps,kd,ks,ts,fs,rfl,hp,hb,ok,hs,hl,hn,q⟩:=h
  refine'⟨_,?derivation,?_⟩
  case derivation=>(have:=aj 26 303 7 25; have:=aj 14 305 11 50; have:=aj 22 299 7 22; have:=aj 13 297 52 69; have:=aj 13 302 116 132; have:=aj 13 305 12 28; have:=aj 13 297 73 89; have:=aT 297 4 103 1 ["_law_function","_law_pot_here","_law_book_here","_law_scope","_law_kind","_law_deep","_law_some","_law_variable_here",".h_law_function","_law_terms"]; have:=aT 302 4 133 1 ["_law_place","_law_pot_here","_law_book_here","_law_scope","_law_kind","_law_deep","_law_some","_law_variable_here","_law_function","_law_terms"]; have:=aj 27 303 7 25; have:=aj 25 299 7 22; walk_at "S2")
  obtain⟨x0,x1,x2,ep,ha,hb0,hb1⟩:=id hp
  refine⟨_,rfl,p,_,2,.int x2,rfl,rfl,by decide,SqL.of ep,rfl,_,_,rfl,rfl,p,_,2,2,rfl,rfl,ep,rfl,?_⟩
  generalize hHA:upd H p (.lst (List.set [V.int x0,V.int x1,V.int x2] 2 (V.int (x2-1))))=HA
  have wA:av p H HA:=⟨⟨x0,x1,x2-1,by rw [← hHA]; exact aa,ha,hb0,hb1⟩,by rw [← hHA]; exact ax.upd _ _ _⟩
  have bA:=RdV.went hb wA.same
  obtain⟨kA,tA,fA,tv,fv,eb,nk,ek,nt,et,rt,nf,ef,rf⟩:=i9.open bA
  have fl:fv.length=fs.length:=by rw [RdA.length rf,List.length_map]
  have ok8:=ok.sl
  refine⟨_,rfl,b,_,2,.ref fA,rfl,rfl,SqT.of eb,rfl,fA,rfl,⟨_,SqL.of ef⟩,fun cl C ex s0 Hc=>?_⟩
  refine⟨fun i m ys σ' H2=>H2=HA∧m=fv.length-i∧i≤fv.length∧ys.length≤i∧(∃ v0,σ'=[v0,some (.ref p),some (.ref b),some (.ref a),some (.str kd),some (.int n),none,none,none,none])∧∀ y∈ys,∃ g∈fs,RdV (fun a=>a≠p) HA y (jh g)∧g.kd=kd,⟨_,rfl,rfl,Nat.zero_le _,Nat.le_refl _,⟨_,rfl⟩,fun _ z=>nomatch z⟩,?_⟩
  rintro i m ys σ' H2 ⟨rfl,rfl,hi,hy,⟨v0,rfl⟩,hall⟩
  by_cases hlt:i<fv.length
  ·refine .inr ⟨⟨fv,fv[i],SqL.of ef,by simp [hlt]⟩,Nat.lt_of_le_of_lt (show ys.length≤8 by omega) (by decide),fun x H' hyl=>?_⟩
   obtain⟨rfl,hx⟩:=hyl
   have hx:=hx fv (SqL.of ef)
   obtain⟨d,ed,rd⟩:=RdA.getV rf hx
   rw [List.getElem?_map] at ed
   obtain⟨g,eg,rfl⟩:=Option.map_eq_some_iff.mp ed
   obtain⟨q1,q2,rfl,e1,n2,e2⟩:=jO rd
   refine⟨_,rfl,q1,_,2,.str g.kd,rfl,rfl,SqT.of e1,rfl,_,rfl,rfl,_,rfl,?_⟩
   by_cases hk:g.kd=kd
   ·refine ifT (by simp [hk]) ⟨fun v H3=>v=.ref q1∧H3=H',⟨_,rfl,rfl,rfl⟩,?_⟩
    rintro v H3 ⟨rfl,rfl⟩
    refine⟨_,?_,rfl,rfl,hlt,by rw [List.length_append,List.length_singleton]; omega,⟨_,rfl⟩,fun y hy'=>?_⟩
    ·omega
    ·rcases List.mem_append.mp hy' with h | h
     ·exact hall y h
     ·rw [List.mem_singleton.mp h]; exact⟨g,List.mem_of_getElem? eg,rd,hk⟩
   ·refine ifF (by simp [hk]) ⟨_,?_,rfl,rfl,hlt,by omega,⟨_,rfl⟩,hall⟩
    omega
  ·obtain rfl:i=fv.length:=by omega
   refine .inl ⟨⟨fv,SqL.of ef,Nat.le_refl _⟩,fun D hD=>?_⟩
   have wB:av p H2 (upd H2 D (.lst ys)):=(av.refl wA.pot).new hD _
   have nDp:D≠p:=Ne.symm (wA.ne hD)
   refine⟨_,rfl,_,rfl,_,rfl,p,a,ps,kd,rfl,wB.pot,(hs.went hp wA.same).went wA.pot wB.same,hl,fun vv H3 hv w3=>?_⟩
   have wC:=wB.trans w3
   have gD:H3 D=some (.lst ys):=w3.at nDp aa
   have hvD:∀ H',cU fs ps kd n H' vv:=fun H'=>by
    rcases hv with rfl | ⟨x,rfl,hx⟩
    ·exact .inl rfl
    ·refine .inr ⟨.leaf x,.leaf x,.var hx,(Fit.nm ?_).mono (Nat.zero_le _) (xB n)⟩
     obtain⟨qq,hq,rfl⟩:=qw hx
     exact hn _ hq
   dsimp only [aV]
   refine il (fun σ' H'=>σ'=[some (.ref p),some (.ref b),some (.ref a),some (.str kd),some (.int n),some (.ref D),some vv,none,none]∧av p H2 H'∧H' D=some (.lst ys)∧ys≠[]∧n≠0) ?_ (fun go=>?_)
   ·rintro σ' H5 ⟨rfl,w5,g5,yn,n0⟩
    obtain⟨m,rfl⟩:∃ m,n=m+1:=⟨n-1,by omega⟩
    have yl:0<ys.length:=List.length_pos_iff.mpr yn
    refine⟨_,rfl,_,rfl,_,rfl,D,_,rfl,.inl (SqL.of g5),?_⟩
    refine⟨p,_,rfl,w5.pot,by omega,by omega,fun r H6 r0 r1 p6 s6=>?_⟩
    have hr1:r.toNat<ys.length:=by omega
    refine⟨D,_,r,ys[r.toNat],rfl,rfl,SqL.of (s6 _ _ nDp g5),bL r0 (by simp [hr1]),?_⟩
    obtain⟨g,hg,rg,gk⟩:=hall _ (List.getElem_mem hr1)
    have w6:av p H2 H6:=w5.mk1 p6 s6
    obtain⟨q1,q2,eq,e1,n2,e2⟩:=jO (RdV.went rg w6.same)
    rw [eq]
    obtain⟨gn,g2,gks,_⟩:=ok.fn g hg
    refine⟨_,rfl,q1,_,1,.ref q2,rfl,rfl,SqT.of e1,rfl,q2,rfl,⟨_,SqL.of e2⟩,fun cl C ex s0 Hc=>?_⟩
    have bk:∀ {H7},av p H6 H7→i9 H7 p b ks ts fs:=fun w7=>RdV.went bA (w6.trans w7).same
    have sc:∀ {H7},av p H6 H7→ScL H7 a ps:=fun w7=>(hs.went hp wA.same).went wA.pot (w6.trans w7).same
    refine aN (g.ps.map V.str).length (fun i ys7 H7=>av p H6 H7∧Paired (fun y k=>cU fs ps k m H7 y) ys7 (g.ps.take i)) (fun i y=>(g.ps.map V.str)[i]? = some y) ⟨av.refl p6,.nil⟩ (by rw [List.length_map]; exact Nat.le_trans g2 (by decide))
     (fun i ys7 H7 hi _ h=>bm (SqL.of (h.1.at n2 e2)) hi) (fun ys7 H7 _ h=>aO (SqL.of (h.1.at n2 e2))) ?_ ?_
    ·rintro i y ys7 H7 hi hy7 yl7 ⟨w7,dr7⟩
     rw [List.getElem?_map] at hy7
     obtain⟨k,hk,rfl⟩:=Option.map_eq_some_iff.mp hy7
     refine⟨_,rfl,_,rfl,_,rfl,_,rfl,_,rfl,_,_,rfl,rfl,?_⟩
     refine pV (E:=E0) ⟨p,b,a,ps,k,ks,ts,fs,?_,w7.pot,bk w7,ok,sc w7,hl,hn,fun v H8 hv8 w8=>⟨w7.trans w8,?_⟩⟩
     ·have : ((m+1:Nat):Int) - 1=(m:Int):=by omega
      show [V.ref p,V.ref b,V.ref a,V.str k,V.int (((m+1:Nat):Int) - 1)]=_
      rw [this]
     ·rw [List.take_succ,hk]
      have h7:Paired (fun y k=>cU fs ps k m H8 y) ys7 (g.ps.take i):=Paired.mapP dr7 fun y k z=>cU.keep z (bV w7.pot w8.same)
      exact bf (F:=fun y k=>cU fs ps k m H8 y) hv8 h7
    ·rintro ys7 H7 yl7 ⟨w7,dr7⟩ D2 hD2
     rw [List.length_map,List.take_length] at dr7
     have w8:av p H6 (upd H7 D2 (.lst ys7)):=w7.new hD2 _
     have dr8:Paired (fun y k=>cU fs ps k m (upd H7 D2 (.lst ys7)) y) ys7 g.ps:=Paired.mapP dr7 fun y k z=>cU.keep z (Same.tups (ac hD2 (.lst ys7)))
     refine⟨_,rfl,D2,ys7,rfl,rfl,SqL.of aa,fun v hv7=>(fC dr8 hv7).elim fun k hk=>cU.thg hk.2,_,rfl,?_⟩
     by_cases hany:(ys7.any fun v=>decide (v=.non))=true
     ·exact ifT hany ⟨_,rfl,q _ _ (hvD _) (wA.trans (w6.trans w8))⟩
     ·refine ifF hany ?_
      obtain⟨l,l1,l2,l3⟩:=om dr8 (Bool.eq_false_iff.mpr hany)
      have w8':=w6.trans w8
      have e8:upd H7 D2 (.lst ys7) q1=some (.tup [.str g.nm,.ref q2,.str g.kd]):=(Same.tups (ac hD2 (.lst ys7))) _ _ (bV p6 w7.same _ _ e1)
      refine⟨_,rfl,q1,_,0,.str g.nm,rfl,rfl,SqT.of e8,rfl,(by show 1≤sizeLine; decide),fun t1 ht1=>?_⟩
      have u1:upd (upd H7 D2 (.lst ys7)) t1 (.tup [.str g.nm]) D2=some (.lst ys7):=by rw [ad (ae aa ht1)]; exact aa
      refine⟨_,rfl,D2,ys7,rfl,.inl ⟨SqL.of u1,fun t2 ht2=>?_⟩⟩
      have s1:=ac ht1 (.tup [.str g.nm])
      have s2:=ac ht2 (.tup ys7)
      have yl2:ys7.length≤2:=by rw [yl7,List.length_map]; exact g2
      refine fM (s2 _ _ aa) aa (Nat.le_trans (show 1+ys7.length≤3 by omega) (by decide)) fun pp H9 e9 s9=>?_
      have s8:=(s1.trans s2).trans s9
      refine q _ _ (.inr ⟨.node (.leaf g.nm::l),.node e9 (.cons (.leaf _) (ap (Same.tups s8) l1)),by rw [← gk]; exact .app hg l2,?_⟩) ?_
      ·refine(Fit.node (bN.cons ((Fit.nm gn.1).mono (Nat.zero_le m) (Nat.le_refl _)) (bN.all (n:=2) l3 (by rw [bZ.length l2]; exact g2)))).mono (Nat.le_refl _) ?_
       rw [bT]; omega
      ·exact(wA.trans w8').mk1 (w8'.pot.keep s8) s8.x
   ·have tell:∀ H',av p H2 H'→Q vv H':=fun H' w'=>q _ _ (hvD _) (wA.trans w')
    refine⟨_,rfl,Nat.zero_le _,fun l hl'=>⟨D,l,ys,rfl,rfl,SqL.of (by rw [ad (ae gD hl')]; exact gD),SqL.of aa,_,rfl,?_⟩⟩
    have wD:=wC.new hl' (.lst [])
    have gD4:upd H3 l (.lst []) D=some (.lst ys):=by rw [ad (ae gD hl')]; exact gD
    by_cases yn:ys=[]
    ·exact ifT (by rw [yn]; rfl) (ifT rfl ⟨_,rfl,tell _ wD⟩)
    refine ifF (by simpa using yn) ⟨_,rfl,rfl,_,rfl,?_⟩
    by_cases n0:n=0
    ·exact ifT (by simp [n0]) (ifT rfl ⟨_,rfl,tell _ wD⟩)
    refine ifF (by simp; omega) ?_
    obtain⟨c0,c1,c2,ec,hc0,hc1,hc2⟩:=id wD.pot
    refine⟨_,rfl,p,_,2,.int c2,rfl,rfl,SqL.of ec,rfl,_,_,rfl,rfl,_,rfl,?_⟩
    by_cases c1':c2<1
    ·exact ifT (by simpa using c1') (ifT rfl ⟨_,rfl,tell _ wD⟩)
    refine ifF (by simpa using c1') ⟨_,rfl,rfl,_,rfl,?_⟩
    by_cases hvn:vv=.non
    ·exact ifF (by simp [hvn]) (ifF (by simp) (go _ _ ⟨rfl,wD,gD4,yn,n0⟩))
    refine ifT (by simp [hvn]) ⟨_,rfl,p,3,rfl,wD.pot,by decide,by decide,fun r H5 r0 r1 p5 s5=>⟨_,_,rfl,rfl,_,rfl,?_⟩⟩
    by_cases r2:r > 0
    ·exact ifT (by simpa using r2) ⟨_,rfl,tell _ (wD.mk1 p5 s5)⟩
    ·exact ifF (by simpa using r2) (go _ _ ⟨rfl,wD.mk1 p5 s5,s5 _ _ nDp gD4,yn,n0⟩)
theorem vM(F:am K mg "_law_term" cM ["_law_pot_here","_law_book_here","_law_scope","_law_kind","_law_deep"]):Def P w K mg base "_law_term" 2 ["_law_pot_here","_law_book_here","_law_scope","_law_kind","_law_deep"] (m8 0):=
 F.mk' (k:=1) zcu (fun vs H Q E h=>False.elim h) fun f cdv A outer s H vs Q E hr h=>False.elim h
theorem tQ(F:am K mg "_law_term" cM ["_law_pot_here","_law_book_here","_law_scope","_law_kind","_law_deep"])(Z:Bl mg)(D_law_draw:Def P w K mg base "_law_draw" 1 ["_law_pot_here","_law_many"] ca)(D_law_variable:Def P w K mg base "_law_variable" 2 ["_law_pot_here","_law_scope","_law_kind"] rQ):∀ n,Def P w K mg base "_law_term" (n+3) ["_law_pot_here","_law_book_here","_law_scope","_law_kind","_law_deep"] (lp n)
 | 0=>jD F Z D_law_draw D_law_variable 0 (vM F)
 | n+1=>jD F Z D_law_draw D_law_variable (n+1) (tQ F Z D_law_draw D_law_variable n)
end
section
abbrev fq:Stmt:=top 58
theorem zcv:ak ["_law_pot_here","_law_book_here","_law_scope","_law_deep","_law_at","_law_word","_law_places","_law_terms"] ["_law_pot_here","_law_book_here","_law_scope","_law_deep"] (af fq):=by walk_at "F"
inductive spAtomI(vs:List V)(H:Hp)(Q:VK):Prop where
 | mk:∀ (p b a:Addr) (ps:List (Str×Str)) (ks:List Str) (ts:List ar) (fs:List aq),vs=[.ref p,.ref b,.ref a,.int 2]→bc H p→i9 H p b ks ts fs→au ks ts fs→ScL H a ps→ps.length≤3→((∀ q∈ps,aK q.1))→(∀ v H' t,Tup H' v t→b6 ks ts fs (bH ps) t→Fit 3 222 t→av p H H'→Q v H')→spAtomI vs H Q
def kh:Sp:=fun vs H Q _=>spAtomI vs H Q
theorem we(F:am K mg "_law_atom" fq ["_law_pot_here","_law_book_here","_law_scope","_law_deep"])(Z:Bl mg)(D_law_draw:Def P w K mg base "_law_draw" 1 ["_law_pot_here","_law_many"] ca)
  (D_law_term:Def P w K mg base "_law_term" (2+3) ["_law_pot_here","_law_book_here","_law_scope","_law_kind","_law_deep"] (lp 2)):Def P w K mg base "_law_atom" 6 ["_law_pot_here","_law_book_here","_law_scope","_law_deep"] kh:=by
 have SC:=zcv
 refine F.mk' (k:=5) zcv (fun vs H Q E h=>?_) (fun f cdv A outer s H vs Q E hr h=>?_)
 ·obtain⟨p,b,a,ps,ks,ts,fs,rfl,_⟩:=h
  rfl
 ·obtain⟨p,b,a,ps,ks,ts,fs,rfl,hp,hb,ok,hs,hl,hn,q⟩:=h
  refine'⟨_,?derivation,?_⟩
  case derivation=>(have:=aj 26 313 7 25; have:=aj 14 315 11 43; have:=aj 13 308 21 38; have:=aj 13 309 33 50; have:=aj 28 311 39 112; have:=aj 13 307 43 60; have:=aj 13 311 40 57; have:=aj 13 311 87 104; have:=aT 312 4 124 1 ["_law_place","_law_pot_here","_law_book_here","_law_scope","_law_deep","_law_at","_law_word","_law_places","_law_terms"]; have:=aj 27 313 7 25; walk_at "S2")
  obtain⟨kA,tA,fA,tv,fv,eb,nk,ek,nt,et,rt,nf,ef,rf⟩:=i9.open hb
  have tl:tv.length=ts.length:=by rw [RdA.length rt,List.length_map]
  have ok8:=ok.sl
  have ok4:=ok.k4
  have ok1:=ok.k1
  refine⟨_,rfl,_,rfl,b,_,1,.ref tA,rfl,rfl,SqT.of eb,rfl,tA,tv,rfl,.inl (SqL.of et),_,_,rfl,rfl,?_⟩
  refine⟨p,_,rfl,hp,by omega,by omega,fun r H1 r0 r1 p1 s1=>?_⟩
  have w1:av p H H1:=⟨p1,s1⟩
  dsimp only [aV]
  refine il (fun σ' H'=>∃ (wd:Str) (pl:Addr) (ps':List Str),σ'=[some (.ref p),some (.ref b),some (.ref a),some (.int 2),some (.int r),some (.str wd),some (.ref pl),none]∧av p H H'∧pl≠p∧H' pl=some (.lst (ps'.map V.str))∧ps'.length≤2∧(∀ l,bZ fs (bH ps) l ps'→b6 ks ts fs (bH ps) (.node (.leaf wd::l)))∧Fit 0 12 (.leaf wd)) ?_ (fun go=>?_)
  ·rintro σ' H5 ⟨wd,pl,ps',rfl,w5,n5,e5,l5,mk,fw⟩
   refine⟨_,rfl,pl,rfl,⟨_,SqL.of e5⟩,fun cl C ex s0 Hc=>?_⟩
   refine aN (ps'.map V.str).length (fun i ys7 H7=>av p H5 H7∧Paired (fun y k=>cU fs ps k 2 H7 y) ys7 (ps'.take i)) (fun i y=>(ps'.map V.str)[i]? = some y) ⟨av.refl w5.pot,.nil⟩ (by rw [List.length_map]; exact Nat.le_trans l5 (by decide))
    (fun i ys7 H7 hi _ h=>bm (SqL.of (h.1.at n5 e5)) hi) (fun ys7 H7 _ h=>aO (SqL.of (h.1.at n5 e5))) ?_ ?_
   ·rintro i y ys7 H7 hi hy7 yl7 ⟨w7,dr7⟩
    rw [List.getElem?_map] at hy7
    obtain⟨k,hk,rfl⟩:=Option.map_eq_some_iff.mp hy7
    refine⟨_,rfl,_,rfl,_,rfl,_,rfl,_,rfl,?_⟩
    refine⟨p,b,a,ps,k,ks,ts,fs,rfl,w7.pot,RdV.went hb (w5.trans w7).same,ok,hs.went hp (w5.trans w7).same,hl,hn,fun v H8 hv8 w8=>⟨w7.trans w8,?_⟩⟩
    rw [List.take_succ,hk]
    have h7:Paired (fun y k=>cU fs ps k 2 H8 y) ys7 (ps'.take i):=Paired.mapP dr7 fun y k z=>cU.keep z (bV w7.pot w8.same)
    exact bf (F:=fun y k=>cU fs ps k 2 H8 y) hv8 h7
   ·rintro ys7 H7 yl7 ⟨w7,dr7⟩ D2 hD2
    rw [List.length_map,List.take_length] at dr7
    have w8:av p H5 (upd H7 D2 (.lst ys7)):=w7.new hD2 _
    have dr8:Paired (fun y k=>cU fs ps k 2 (upd H7 D2 (.lst ys7)) y) ys7 ps':=Paired.mapP dr7 fun y k z=>cU.keep z (Same.tups (ac hD2 (.lst ys7)))
    have w9:=w5.trans w8
    refine⟨_,rfl,D2,ys7,rfl,rfl,SqL.of aa,fun v hv7=>(fC dr8 hv7).elim fun k hk=>cU.thg hk.2,_,rfl,?_⟩
    by_cases hany:(ys7.any fun v=>decide (v=.non))=true
    ·refine ifT hany ⟨(by show 2≤sizeLine; decide),fun L hL=>⟨_,rfl,p,2,rfl,w9.pot.keep (ac hL _),by decide,by decide,fun r2 H9 r20 r21 p9 s9=>?_⟩⟩
     have wL:=w9.new hL (.lst [.str "and",.str "or"])
     have nL:L≠p:=Ne.symm (w9.ne hL)
     have wz:=wL.mk1 p9 s9
     have fin:∀ w:Str,w="and"∨w="or"→∀ t,H9 t=none→Q (.ref t) (upd H9 t (.tup [.str w])):=fun w hw t ht=>q _ _ (.node [.leaf w]) (.node aa (.cons (.leaf _) .nil)) (.conn hw (by decide) .nil)
      ((Fit.node (bN.cons (Fit.wd w (by rcases hw with rfl | rfl <;> simp)) bN.nil)).mono (by decide) (by decide)) (wz.new ht _)
     have hc:r2=0∨r2=1:=by omega
     rcases hc with rfl | rfl
     ·exact⟨L,_,0,.str "and",rfl,rfl,SqL.of (s9 _ _ nL aa),rfl,(by show 1≤sizeLine; decide),fin _ (.inl rfl)⟩
     ·exact⟨L,_,1,.str "or",rfl,rfl,SqL.of (s9 _ _ nL aa),rfl,(by show 1≤sizeLine; decide),fin _ (.inr rfl)⟩
    ·refine ifF hany ?_
     obtain⟨l,l1,l2,l3⟩:=om dr8 (Bool.eq_false_iff.mpr hany)
     refine⟨_,rfl,(by show 1≤sizeLine; decide),fun t1 ht1=>?_⟩
     have u1:upd (upd H7 D2 (.lst ys7)) t1 (.tup [.str wd]) D2=some (.lst ys7):=by rw [ad (ae aa ht1)]; exact aa
     refine⟨_,rfl,D2,ys7,rfl,.inl ⟨SqL.of u1,fun t2 ht2=>?_⟩⟩
     have s1:=ac ht1 (.tup [.str wd])
     have s2:=ac ht2 (.tup ys7)
     have yl2:ys7.length≤2:=by rw [yl7,List.length_map]; exact l5
     refine fM (s2 _ _ aa) aa (Nat.le_trans (show 1+ys7.length≤3 by omega) (by decide)) fun pp H9 e9 s9=>?_
     have s8:=(s1.trans s2).trans s9
     refine q _ _ (.node (.leaf wd::l)) (.node e9 (.cons (.leaf _) (ap (Same.tups s8) l1))) (mk l l2) ?_ (w9.mk1 (w9.pot.keep s8) s8.x)
     exact(Fit.node (bN.cons (fw.mono (Nat.zero_le 2) (Nat.le_refl _)) (bN.all (n:=2) l3 (by rw [bZ.length l2]; exact l5)))).mono (by decide) (by decide)
  ·have b1:=RdV.went hb s1
   obtain⟨kB,tB,fB,tv',fv',eb1,nk1,ek1,nt1,et1,rt1,_⟩:=i9.open b1
   refine⟨_,rfl,_,rfl,b,_,1,.ref tB,rfl,rfl,SqT.of eb1,rfl,tB,tv',rfl,.inl (SqL.of et1),_,_,rfl,rfl,_,rfl,?_⟩
   by_cases hr:r<tv'.length
   ·have hr1:r.toNat<tv'.length:=by omega
    obtain⟨d,ed,rd⟩:=RdA.getV rt1 (i:=r.toNat) (x:=tv'[r.toNat]) (by simp [hr1])
    rw [List.getElem?_map] at ed
    obtain⟨g,eg,rfl⟩:=Option.map_eq_some_iff.mp ed
    have hg:=List.mem_of_getElem? eg
    obtain⟨q1,q2,eq,e1,n2,e2⟩:=pR rd
    refine ifT (by simpa using hr) ⟨_,rfl,b,_,1,.ref tB,rfl,rfl,SqT.of eb1,rfl,_,rfl,tB,tv',r,tv'[r.toNat],rfl,rfl,SqL.of et1,bL r0 (by simp [hr1]),?_⟩
    rw [eq]
    exact⟨q1,_,rfl,SqT.of e1,rfl,_,_,rfl,_,_,rfl,rfl,go _ _ ⟨g.nm,q2,g.ps,rfl,w1,n2,e2,(ok.tn g hg).2.1,fun l hl=>.tie hg hl,Fit.nm (ok.tn g hg).1.1⟩⟩
   ·refine ifF (by simpa using hr) ⟨_,rfl,b,_,0,.ref kB,rfl,rfl,SqT.of eb1,rfl,_,rfl,_,rfl,b,_,0,.ref kB,rfl,rfl,SqT.of eb1,rfl,kB,_,rfl,.inl (SqL.of ek1),?_⟩
    rw [List.length_map]
    refine⟨p,_,rfl,p1,by omega,by omega,fun r2 H2 r20 r21 p2 s2=>?_⟩
    have hr2:r2.toNat<ks.length:=by omega
    have hk:ks[r2.toNat]? = some ks[r2.toNat]:=by simp [hr2]
    refine⟨kB,_,r2,.str ks[r2.toNat],rfl,rfl,SqL.of (s2 _ _ nk1 ek1),bL r20 (by rw [List.getElem?_map,hk]; rfl),(by show 1≤sizeLine; decide),fun L hL=>?_⟩
    refine⟨L,2,_,rfl,rfl,aa,by decide,by decide,(by show 1*2≤sizeLine; decide),fun L2 hL2=>⟨_,_,rfl,?_⟩⟩
    have w2:=((w1.mk1 p2 s2).new hL (.lst [.str ks[r2.toNat]]))
    refine go _ _ ⟨"=",L2,[ks[r2.toNat],ks[r2.toNat]],rfl,w2.new hL2 _,Ne.symm (w2.ne hL2),aa,Nat.le_refl 2,fun l hl=>?_,(Fit.wd _ (by simp)).mono (Nat.le_refl _) (by decide)⟩
    cases hl with
    | cons a1 r1=>
     cases r1 with
     | cons a2 r2=>
      cases r2
      exact .eq a1 a2
end
def bS:Nat→Nat
 | 0=>222
 | n+1=>3*bS n+11
theorem ow:∀ n,222≤bS n
 | 0=>Nat.le_refl _
 | n+1=>by rw [bS]; have:=ow n; omega
theorem kZ{ks:List Str}{ts:List ar}{fs:List aq}{S:Str→Option Str}{a:Tr}(h:b6 ks ts fs S a):∀ {l:List Tr},cS ks ts fs S l→cS ks ts fs S (l++[a])
 | _,.nil=>.cons h .nil
 | _,.cons f r=>.cons f (kZ h r)
theorem xS(ws:List Str){r:Int}(h0:0≤r)(h1:r<ws.length):∃ w∈ws,atI (ws.map V.str) r=some (.str w):=by
 have h:r.toNat<ws.length:=by omega
 exact⟨ws[r.toNat],List.getElem_mem h,bL h0 (by rw [List.getElem?_map]; simp [h])⟩
theorem zJ:∀ j,j<6→∃ c:Nat,c≤3∧([V.int 0,V.int 1,V.int 2,V.int 2,V.int 2,V.int 3]:List V)[j]? = some (.int c):=by
 intro j hj
 have : j=0∨j=1∨j=2∨j=3∨j=4∨j=5:=by omega
 rcases this with rfl | rfl | rfl | rfl | rfl | rfl
 ·exact⟨0,by decide,rfl⟩
 ·exact⟨1,by decide,rfl⟩
 ·exact⟨2,by decide,rfl⟩
 ·exact⟨2,by decide,rfl⟩
 ·exact⟨2,by decide,rfl⟩
 ·exact⟨3,by decide,rfl⟩
def varMenu:List Str:=["x","y","z","all","not","r","f"]
theorem e6:∀ k∈varMenu,aK k:=by unfold aK; decide +kernel
theorem wR:∀ w∈[("all":Str),"all","some"],w="all"∨w="some":=by
 intro w hw
 rcases List.mem_cons.mp hw with h | h
 ·exact .inl h
 rcases List.mem_cons.mp h with h | h
 ·exact .inl h
 ·exact .inr (List.mem_singleton.mp h)
section
abbrev bq:Stmt:=top 59
theorem zcw:ak ["_law_pot_here","_law_book_here","_law_scope","_law_deep","_law_way","_law_many","_law_word","_law_name","_law_kind"] ["_law_pot_here","_law_book_here","_law_scope","_law_deep"] (af bq):=by walk_at "F"
inductive spSinI(n:Nat)(vs:List V)(H:Hp)(Q:VK):Prop where
 | mk:∀ (p b a:Addr) (ps:List (Str×Str)) (ks:List Str) (ts:List ar) (fs:List aq),vs=[.ref p,.ref b,.ref a,.int n]→bc H p→i9 H p b ks ts fs→au ks ts fs→ScL H a ps→ps.length≤3→((∀ q∈ps,aK q.1))→(∀ v H' t,Tup H' v t→b6 ks ts fs (bH ps) t→Fit (3+n) (bS n) t→av p H H'→Q v H')→spSinI n vs H Q
def oR(n:Nat):Sp:=fun vs H Q _=>spSinI n vs H Q
def j8:Nat→Sp
 | 0=>fun _ _ _ _=>False
 | n+1=>oR n
theorem jE(F:am K mg "_law_saying_in" bq ["_law_pot_here","_law_book_here","_law_scope","_law_deep"])(Z:Bl mg)(D_law_draw:Def P w K mg base "_law_draw" 1 ["_law_pot_here","_law_many"] ca)(D_law_atom:Def P w K mg base "_law_atom" 6 ["_law_pot_here","_law_book_here","_law_scope","_law_deep"] kh)(n:Nat)
  (D_law_saying_in:Def P w K mg base "_law_saying_in" (n+6) ["_law_pot_here","_law_book_here","_law_scope","_law_deep"] (j8 n)):Def P w K mg base "_law_saying_in" (n+7) ["_law_pot_here","_law_book_here","_law_scope","_law_deep"] (oR n):=by
 have SC:=zcw
 refine F.mk' (k:=n+6) zcw (fun vs H Q E h=>?_) (fun f cdv A outer s H vs Q E hr h=>?_)
 ·obtain⟨p,b,a,ps,ks,ts,fs,rfl,_⟩:=h
  rfl
 ·obtain⟨p,b,a,ps,ks,ts,fs,rfl,hp,hb,ok,hs,hl,hn,q⟩:=h
  refine'⟨_,?derivation,?_⟩
  case derivation=>(have:=aj 14 325 15 160; have:=aj 13 328 16 33; have:=aj 29 319 67 83; have:=aj 18 329 91 128; have:=aj 13 328 63 80; have:=aT 325 54 159 1 ["_law_k","_law_pot_here","_law_book_here","_law_scope","_law_deep","_law_way","_law_many","_law_word","_law_name","_law_kind"]; have:=aj 30 319 67 83; walk_at "S2")
  obtain⟨x0,x1,x2,ep,ha,hb0,hb1⟩:=id hp
  refine⟨_,rfl,p,_,2,.int x2,rfl,rfl,by decide,SqL.of ep,rfl,_,_,rfl,rfl,p,_,2,2,rfl,rfl,ep,rfl,?_⟩
  generalize hHA:upd H p (.lst (List.set [V.int x0,V.int x1,V.int x2] 2 (V.int (x2-1))))=HA
  have wA:av p H HA:=⟨⟨x0,x1,x2-1,by rw [← hHA]; exact aa,ha,hb0,hb1⟩,by rw [← hHA]; exact ax.upd _ _ _⟩
  refine⟨_,rfl,p,12,rfl,wA.pot,by decide,by decide,fun r H1 r0 r1 p1 s1=>?_⟩
  have w1:av p H H1:=wA.mk1 p1 s1
  dsimp only [aV]
  have b1:=RdV.went hb w1.same
  have sc1:∀ {H'},av p H H'→ScL H' a ps:=fun w'=>hs.went hp w'.same
  refine il (fun σ' H'=>σ'=[some (.ref p),some (.ref b),some (.ref a),some (.int n),some (.int r),none,none,none,none]∧av p H H'∧n≠0) ?_ (fun go=>?_)
  ·rintro σ' H5 ⟨rfl,w5,n0⟩
   obtain⟨m,rfl⟩:∃ m,n=m+1:=⟨n-1,by omega⟩
   have sub:∀ (a':Addr) (ps':List (Str×Str)) (H':Hp) (R:VK),av p H H'→ScL H' a' ps'→ps'.length≤3→(∀ q∈ps',aK q.1)→(∀ v H'' t,Tup H'' v t→b6 ks ts fs (bH ps') t→Fit (3+m) (bS m) t→av p H' H''→R v H'')→j8 (m+1) [.ref p,.ref b,.ref a',.int (((m+1:Nat):Int) - 1)] H' R E0:=fun a' ps' H' R w' s' l' n' k'=>by
    have e:((m+1:Nat):Int) - 1=(m:Int):=by omega
    rw [e]
    exact⟨p,b,a',ps',ks,ts,fs,rfl,w'.pot,RdV.went hb w'.same,ok,s',l',n',k'⟩
   refine⟨_,rfl,rfl,_,rfl,?_⟩
   by_cases r3:r=3
   ·refine ifT (by simp [r3]) ⟨_,rfl,_,rfl,_,rfl,_,rfl,_,_,rfl,rfl,?_⟩
    refine sub a ps H5 _ w5 (sc1 w5) hl hn fun v H6 t tv st ft w6=>⟨(by show 2≤sizeLine; decide),fun L hL=>?_⟩
    refine q _ _ (.node [.leaf "not",t]) (.node aa (.cons (.leaf _) (.cons (aX (Same.tups (ac hL _)) tv) .nil))) (.not st) ?_ ((w5.trans w6).new hL _)
    refine(Fit.node (bN.cons ((Fit.wd _ (by simp)).mono (Nat.zero_le _) (Nat.le_refl _)) (bN.cons ft bN.nil))).mono (by omega) ?_
    rw [bS]; omega
   refine ifF (by simp [r3]) ⟨_,rfl,_,_,rfl,rfl,_,rfl,?_⟩
   refine mC ?body (fun _ h=>ifT rfl h) (fun _ h=>?other)
   case body=>
    refine⟨(by show 6≤sizeLine; decide),fun L hL=>⟨_,rfl,p,6,rfl,w5.pot.keep (ac hL _),by decide,by decide,fun r2 H6 r20 r21 p6 s6=>?_⟩⟩
    obtain⟨c,c3,ec⟩:=zJ r2.toNat (by omega)
    have nL:L≠p:=Ne.symm (w5.ne hL)
    refine⟨L,_,r2,.int c,rfl,rfl,SqL.of (s6 _ _ nL aa),bL r20 ec,?_⟩
    have w6:=(w5.new hL (.lst [V.int 0,V.int 1,V.int 2,V.int 2,V.int 2,V.int 3])).mk1 p6 s6
    have conn:∀ wd:Str,wd="and"∨wd="or"→∀ (H7:Hp) (t1:Addr),H7 t1=none→av p H H7→∀ (Qr:VK),(∀ l D2 ys H8,aQ H8 ys l→cS ks ts fs (bH ps) l→l.length≤3→(∀ t∈l,Fit (3+m) (bS m) t)→av p (upd H7 t1 (.tup [.str wd])) H8→H8 D2=some (.lst ys)→Qr (.ref D2) H8)→
      xw (d5 (cT 5) e7) [some (.ref p),some (.ref b),some (.ref a),some (.int (m+1:Nat)),some (.int r),some (.int c),none,none,none] (upd H7 t1 (.tup [.str wd])) fun J H1=>∀ (cl:List (Str×Addr)) (C:Addr) (ex:List Addr) (s:Shared) (Hc:Hp),fS 1 J (aV 0) (iw (j8 (m+1)) [] E0 (d5 (cT 1) (d5 (cT 2) (d5 (cT 3) (d5 (tOp (rI0 fun i j=>V.int (i-j)) (cT 4) (tC (V.int 1))) e7))))) [some (.ref p),some (.ref b),some (.ref a),some (.int (m+1:Nat)),some (.int r),some (.int c),none,none,none] H1 Qr:=by
     intro wd hwd H7 t1 ht1 w7 Qr kk
     have w8:=w7.new ht1 (.tup [.str wd])
     refine⟨_,rfl,c,rfl,by omega,by omega,fun cl C ex s0 Hc=>?_⟩
     have ec0:(c:Int).toNat=c:=by omega
     refine aN (c:Int).toNat (fun i ys H9=>av p (upd H7 t1 (.tup [.str wd])) H9∧∃ l,aQ H9 ys l∧cS ks ts fs (bH ps) l∧l.length=i∧∀ t∈l,Fit (3+m) (bS m) t) (fun _ _=>True) ⟨av.refl w8.pot,[],.nil,.nil,rfl,fun _ z=>nomatch z⟩ (by rw [ec0]; exact Nat.le_trans c3 (by decide))
      (fun i ys H9 hi _ _=>⟨(kM hi).1,fun x H' y=>⟨((kM hi).2 x H' y).1,trivial⟩⟩) (fun ys H9 _ _=>lg) ?_ ?_
     ·rintro i y ys H9 hi-yl ⟨w9,l,l1,l2,l3,l4⟩
      refine⟨_,rfl,_,rfl,_,rfl,_,rfl,_,_,rfl,rfl,?_⟩
      refine sub a ps H9 _ (w8.trans w9) (sc1 (w8.trans w9)) hl hn fun v H10 t tv st ft w10=>⟨w9.trans w10,l++[t],aQ.snoc (ap (bV w9.pot w10.same) l1) tv,kZ st l2,by rw [List.length_append,l3]; rfl,fun u hu=>?_⟩
      rcases List.mem_append.mp hu with hu | hu
      ·exact l4 u hu
      ·rw [List.mem_singleton.mp hu]; exact ft
     ·rintro ys H9 yl ⟨w9,l,l1,l2,l3,l4⟩ D2 hD2
      exact kk l D2 ys _ (ap (Same.tups (ac hD2 _)) l1) l2 (by omega) l4 (w9.new hD2 _) aa
    refine⟨(by show 2≤sizeLine; decide),fun L2 hL2=>⟨_,rfl,_,_,rfl,rfl,(by decide:(0:Int)<2),?_⟩⟩
    have w7:=w6.new hL2 (.lst [.str "and",.str "or"])
    have fin:∀ wd:Str,wd="and"∨wd="or"→∀ t1,upd H6 L2 (.lst [.str "and",.str "or"]) t1=none→∀ l D2 ys H8,aQ H8 ys l→cS ks ts fs (bH ps) l→l.length≤3→(∀ t∈l,Fit (3+m) (bS m) t)→av p (upd (upd H6 L2 (.lst [.str "and",.str "or"])) t1 (.tup [.str wd])) H8→H8 D2=some (.lst ys)→
      ∀ t2,H8 t2=none→nz K (.ref t1) (.ref t2) (upd H8 t2 (.tup ys)) Q:=by
     intro wd hwd t1 ht1 l D2 ys H8 l1 l2 l3 l4 w8 eD t2 ht2
     have w9:=(w7.new ht1 (.tup [.str wd])).trans w8
     have s2:=ac ht2 (.tup ys)
     have e1:H8 t1=some (.tup [.str wd]):=bV (w7.new ht1 (.tup [.str wd])).pot w8.same _ _ aa
     have yl:ys.length=l.length:=aQ.length l1
     refine fM (s2 _ _ e1) aa (Nat.le_trans (show 1+ys.length≤4 by omega) (by decide)) fun pp H9 e9 s9=>?_
     have s8:=s2.trans s9
     refine q _ _ (.node (.leaf wd::l)) (.node e9 (.cons (.leaf _) (ap (Same.tups s8) l1))) (.conn hwd (by omega) l2) ?_ (w9.mk1 (w9.pot.keep s8) s8.x)
     refine(Fit.node (bN.cons ((Fit.wd wd (by rcases hwd with rfl | rfl <;> simp)).mono (Nat.zero_le _) (Nat.le_refl _)) (bN.all (n:=3) l4 l3))).mono (by omega) ?_
     rw [bS]; omega
    have hm2:r % 2=0∨r % 2=1:=by omega
    rcases hm2 with hm2 | hm2
    ·refine⟨L2,_,r % 2,.str "and",rfl,rfl,SqL.of aa,by rw [hm2]; rfl,(by show 1≤sizeLine; decide),fun t1 ht1=>?_⟩
     exact conn "and" (.inl rfl) _ t1 ht1 w7 _ fun l D2 ys H8 a1 a2 a3 a4 a5 a6=>⟨D2,ys,rfl,.inl ⟨SqL.of a6,fin "and" (.inl rfl) t1 ht1 l D2 ys H8 a1 a2 a3 a4 a5 a6⟩⟩
    ·refine⟨L2,_,r % 2,.str "or",rfl,rfl,SqL.of aa,by rw [hm2]; rfl,(by show 1≤sizeLine; decide),fun t1 ht1=>?_⟩
     exact conn "or" (.inr rfl) _ t1 ht1 w7 _ fun l D2 ys H8 a1 a2 a3 a4 a5 a6=>⟨D2,ys,rfl,.inl ⟨SqL.of a6,fin "or" (.inr rfl) t1 ht1 l D2 ys H8 a1 a2 a3 a4 a5 a6⟩⟩
   case other=>
    obtain⟨bs,ea,pa⟩:=(sc1 w5).ex
    have bl:(bs.map V.ref).length=ps.length:=by rw [List.length_map,Paired.length pa]
    refine⟨_,rfl,a,_,rfl,.inl (SqL.of ea),rfl,_,rfl,?_⟩
    by_cases p3:ps.length=3
    ·exact ifT (by rw [bl,p3]; rfl) h
    refine ifF (by rw [bl]; simp; omega) ?_
    refine⟨(by show 3≤sizeLine; decide),fun L hL=>⟨_,rfl,p,3,rfl,w5.pot.keep (ac hL _),by decide,by decide,fun r2 H6 r20 r21 p6 s6=>?_⟩⟩
    have nL:L≠p:=Ne.symm (w5.ne hL)
    obtain⟨wd,hwd,ewd⟩:=xS ["all","all","some"] r20 r21
    refine⟨L,_,r2,.str wd,rfl,rfl,SqL.of (s6 _ _ nL aa),ewd,?_⟩
    have w6:=(w5.new hL (.lst ([("all":Str),"all","some"].map V.str))).mk1 p6 s6
    refine⟨(by show 7≤sizeLine; decide),fun L2 hL2=>⟨_,rfl,p,7,rfl,w6.pot.keep (ac hL2 _),by decide,by decide,fun r4 H7 r40 r41 p7 s7=>?_⟩⟩
    have nL2:L2≠p:=Ne.symm (w6.ne hL2)
    obtain⟨nm,hnm,enm⟩:=xS varMenu r40 r41
    refine⟨L2,_,r4,.str nm,rfl,rfl,SqL.of (s7 _ _ nL2 aa),enm,?_⟩
    have w7:=(w6.new hL2 (.lst (varMenu.map V.str))).mk1 p7 s7
    obtain⟨kB,tB,fB,tv',fv',eb1,nk1,ek1,_⟩:=i9.open (RdV.went hb w7.same)
    have ok4:=ok.k4
    have ok1:=ok.k1
    refine⟨_,rfl,b,_,0,.ref kB,rfl,rfl,SqT.of eb1,rfl,_,rfl,_,rfl,b,_,0,.ref kB,rfl,rfl,SqT.of eb1,rfl,kB,_,rfl,.inl (SqL.of ek1),?_⟩
    rw [List.length_map]
    refine⟨p,_,rfl,p7,by omega,by omega,fun r5 H8 r50 r51 p8 s8=>?_⟩
    obtain⟨kd,hkd,ekd⟩:=xS ks r50 r51
    refine⟨kB,_,r5,.str kd,rfl,rfl,SqL.of (s8 _ _ nk1 ek1),ekd,?_⟩
    have w8:=w7.mk1 p8 s8
    refine⟨_,rfl,_,rfl,_,rfl,_,rfl,_,rfl,_,rfl,_,rfl,_,rfl,(by show 2≤sizeLine; decide),fun tp htp=>⟨(by show 1≤sizeLine; decide),fun L3 hL3=>?_⟩⟩
    have w9:=(w8.new htp (.tup [.str nm,.str kd])).new hL3 (.lst [.ref tp])
    obtain⟨bs,ea,pa⟩:=(sc1 w9).ex
    have bl2:(bs.map V.ref).length=ps.length:=by rw [List.length_map,Paired.length pa]
    refine⟨a,L3,_,_,rfl,rfl,ea,aa,Nat.le_trans (show (bs.map V.ref).length+1≤4 by omega) (by decide),fun L4 hL4=>⟨_,rfl,_,_,rfl,rfl,?_⟩⟩
    have w10:=w9.new hL4 (.lst (bs.map V.ref++[.ref tp]))
    refine sub L4 (ps++[(nm,kd)]) _ _ w10 ⟨bs++[tp],by rw [List.map_append]; exact aa,?_⟩ (by rw [List.length_append,List.length_singleton]; omega) (fun z hz=>?_) fun v H11 t tv st ft w11=>⟨(by show 4≤sizeLine; decide),fun L5 hL5=>?_⟩
    ·exact bf (x:=tp) (y:=(nm,kd)) (F:=fun b (q:Str×Str)=>upd (upd (upd H8 tp (.tup [.str nm,.str kd])) L3 (.lst [.ref tp])) L4 (.lst (bs.map V.ref++[.ref tp])) b=some (.tup [.str q.1,.str q.2])) ((ac hL4 _) _ _ ((ac hL3 _) _ _ aa)) (Paired.mapP pa fun b q z=>(ac hL4 _) _ _ z)
    ·rcases List.mem_append.mp hz with hz | hz
     ·exact hn z hz
     ·rw [List.mem_singleton.mp hz]; exact e6 nm hnm
    ·rw [nR] at st
     have hw:=wR wd hwd
     refine q _ _ (.node [.leaf wd,.leaf nm,.leaf kd,t]) (.node aa (.cons (.leaf _) (.cons (.leaf _) (.cons (.leaf _) (.cons (aX (Same.tups (ac hL5 _)) tv) .nil))))) (.bind hw (e6 nm hnm) hkd st) ?_ ((w10.trans w11).new hL5 _)
     refine(Fit.node (bN.cons ((Fit.wd wd (by rcases hw with rfl | rfl <;> simp)).mono (Nat.zero_le _) (Nat.le_refl _)) (bN.cons ((Fit.nm (e6 nm hnm)).mono (Nat.zero_le _) (Nat.le_refl _)) (bN.cons ((Fit.nm (ok.kn2 kd hkd)).mono (Nat.zero_le _) (Nat.le_refl _)) (bN.cons ft bN.nil))))).mono (by omega) ?_
     have:=ow m
     rw [bS]; omega
  ·have atomS:∀ H',av p H H'→kh [.ref p,.ref b,.ref a,.int 2] H' Q E0:=fun H' w'=>⟨p,b,a,ps,ks,ts,fs,rfl,w'.pot,RdV.went hb w'.same,ok,sc1 w',hl,hn,fun v H'' t tv st ft w''=>q _ _ t tv st (ft.mono (by omega) (ow n)) (w'.trans w'')⟩
   refine⟨_,rfl,rfl,_,rfl,?_⟩
   by_cases n0:n=0
   ·exact ifT (by simp [n0]) (ifT rfl ⟨_,rfl,_,rfl,_,rfl,atomS _ w1⟩)
   refine ifF (by simp; omega) ?_
   obtain⟨c0,c1,c2,ec,hc0,hc1,hc2⟩:=id w1.pot
   refine⟨_,rfl,p,_,2,.int c2,rfl,rfl,SqL.of ec,rfl,_,_,rfl,rfl,_,rfl,?_⟩
   by_cases c8:c2<8
   ·exact ifT (by simpa using c8) (ifT rfl ⟨_,rfl,_,rfl,_,rfl,atomS _ w1⟩)
   refine ifF (by simpa using c8) ⟨_,rfl,_,_,rfl,rfl,_,rfl,?_⟩
   by_cases r3:r<3
   ·obtain⟨bs,ea,pa⟩:=(sc1 w1).ex
    refine ifT (by simpa using r3) ⟨_,rfl,Nat.zero_le _,fun l hl'=>⟨a,l,bs.map V.ref,rfl,rfl,SqL.of (by rw [ad (ae ea hl')]; exact ea),SqL.of aa,_,rfl,?_⟩⟩
    by_cases bn:(!(bs.map V.ref).isEmpty)=true
    ·exact ifT bn ⟨_,rfl,_,rfl,_,rfl,atomS _ (w1.new hl' _)⟩
    ·exact ifF bn (go _ _ ⟨rfl,w1.new hl' _,n0⟩)
   ·exact ifF (by simpa using r3) (ifF (by simp) (go _ _ ⟨rfl,w1,n0⟩))
theorem vN(F:am K mg "_law_saying_in" bq ["_law_pot_here","_law_book_here","_law_scope","_law_deep"]):Def P w K mg base "_law_saying_in" 6 ["_law_pot_here","_law_book_here","_law_scope","_law_deep"] (j8 0):=
 F.mk' (k:=5) zcw (fun vs H Q E h=>False.elim h) fun f cdv A outer s H vs Q E hr h=>False.elim h
theorem tU(F:am K mg "_law_saying_in" bq ["_law_pot_here","_law_book_here","_law_scope","_law_deep"])(Z:Bl mg)(D_law_draw:Def P w K mg base "_law_draw" 1 ["_law_pot_here","_law_many"] ca)(D_law_atom:Def P w K mg base "_law_atom" 6 ["_law_pot_here","_law_book_here","_law_scope","_law_deep"] kh):∀ n,Def P w K mg base "_law_saying_in" (n+7) ["_law_pot_here","_law_book_here","_law_scope","_law_deep"] (oR n)
 | 0=>jE F Z D_law_draw D_law_atom 0 (vN F)
 | n+1=>jE F Z D_law_draw D_law_atom (n+1) (tU F Z D_law_draw D_law_atom n)
end
theorem uj{H:Hp}{p a:Addr}{xs:List V}{ts:List Tr}(hp:bc H p)(h:LT H a xs)(r:bE H xs ts):a≠p:=by
 rcases h with h | h
 ·refine ku hp h fun x y z q=>?_
  injection q with q
  subst q
  cases r with
  | cons f _=>cases f
 ·exact ku hp h fun _ _ _ z=>nomatch z
mutual
theorem me{H H':Hp}{p:Addr}(hp:bc H p)(s:ax p H H'):∀ {v:V} {t:Tr},Mix H v t→Mix H' v t
 | _,_,.leaf x=>.leaf x
 | _,_,.node h r=>.node (h.mono fun o e=>s _ o (uj hp h r) e) (eO hp s r)
theorem eO{H H':Hp}{p:Addr}(hp:bc H p)(s:ax p H H'):∀ {v:List V} {t:List Tr},bE H v t→bE H' v t
 | _,_,.nil=>.nil
 | _,_,.cons a r=>.cons (me hp s a) (eO hp s r)
end
theorem bE.snoc{H:Hp}{x:V}{y:Tr}:∀ {v:List V} {t:List Tr},bE H v t→Mix H x y→bE H (v++[x]) (t++[y])
 | _,_,.nil,h=>.cons h .nil
 | _,_,.cons a r,h=>.cons a (bE.snoc r h)
theorem oM:∀ ts:List Tr,ts.length≤szA ts
 | []=>Nat.le_refl _
 | t::ts=>by rw [szA,List.length_cons]; have:=oM ts; omega
theorem oK{t:Tr}:∀ {ts:List Tr},t∈ts→sz t≤szA ts
 | x::r,h=>by
  rw [szA]
  rcases List.mem_cons.mp h with rfl | h
  ·omega
  ·have:=oK h; omega
inductive Em(R:Addr→Prop)(H:Hp):Nat→V→Prop where
 | str {n:Nat} (x:Str):Em R H n (.str x)
 | tup {n:Nat} {a:Addr} {xs:List V}:H a=some (.tup xs)→(∀ x∈xs,Em R H n x)→Em R H (n+1) (.ref a)
 | lst {n:Nat} {a:Addr} {xs:List V}:R a→H a=some (.lst xs)→(∀ x∈xs,Em R H n x)→Em R H (n+1) (.ref a)
theorem Em.mono{R R':Addr→Prop}{H H':Hp}(hR:∀ a,R a→R' a)(ht:cP H H')(hl:∀ a o,R a→H a=some o→H' a=some o):∀ {n:Nat} {v:V},Em R H n v→Em R' H' n v
 | _,_,.str x=>.str x
 | _,_,.tup e r=>.tup (ht _ _ e) fun x hx=>Em.mono hR ht hl (r x hx)
 | _,_,.lst ra e r=>.lst (hR _ ra) (hl _ _ ra e) fun x hx=>Em.mono hR ht hl (r x hx)
theorem Em.went{H0 H H':Hp}{p:Addr}(h0:∃ o,H0 p=some o)(hp:bc H p)(s:ax p H H'){n:Nat}{v:V}(h:Em (fun a=>H0 a=none) H n v):Em (fun a=>H0 a=none) H' n v:=
 h.mono (fun _ z=>z) (bV hp s) fun a o ra e=>s a o (by rintro rfl; obtain⟨o',e'⟩:=h0; rw [ra] at e'; cases e') e
theorem av.none{p:Addr}{H H':Hp}(w:av p H H'){a:Addr}(h:H' a=none):H a=none:=by
 cases e:H a with
 | none=>rfl
 | some o=>
  by_cases hp:a=p
  ·subst hp
   obtain⟨o',e'⟩:=w.pot.some
   rw [h] at e'; cases e'
  ·rw [w.same a o hp e] at h; cases h
section
abbrev dJ:Stmt:=top 60
theorem zcx:ak ["_law_pot_here","_law_book_here","_law_deep"] ["_law_pot_here","_law_book_here","_law_deep"] (af dJ):=by walk_at "F"
inductive spSayingI(vs:List V)(H:Hp)(Q:VK):Prop where
 | mk:∀ (p b:Addr) (ks:List Str) (ts:List ar) (fs:List aq),vs=[.ref p,.ref b,.int 4]→bc H p→i9 H p b ks ts fs→au ks ts fs→(∀ v H' t,Tup H' v t→b6 ks ts fs (fun _=>none) t→Fit 7 20000 t→av p H H'→Q v H')→spSayingI vs H Q
def lq:Sp:=fun vs H Q _=>spSayingI vs H Q
theorem qj(F:am K mg "_law_saying" dJ ["_law_pot_here","_law_book_here","_law_deep"])(Z:Bl mg)(D_law_saying_in:Def P w K mg base "_law_saying_in" (4+7) ["_law_pot_here","_law_book_here","_law_scope","_law_deep"] (oR 4)):Def P w K mg base "_law_saying" 12 ["_law_pot_here","_law_book_here","_law_deep"] lq:=by
 have SC:=zcx
 refine F.mk' (k:=11) zcx (fun vs H Q E h=>?_) (fun f cdv A outer s H vs Q E hr h=>?_)
 ·obtain⟨p,b,ks,ts,fs,rfl,_⟩:=h
  rfl
 ·obtain⟨p,b,ks,ts,fs,rfl,hp,hb,ok,q⟩:=h
  refine'⟨_,?derivation,?_⟩
  case derivation=>(walk_at "S2")
  obtain⟨x0,x1,x2,ep,ha,hb0,hb1⟩:=id hp
  refine⟨_,rfl,p,_,2,2,rfl,rfl,ep,rfl,?_⟩
  generalize hHA:upd H p (.lst (List.set [V.int x0,V.int x1,V.int x2] 2 (V.int 40)))=HA
  have wA:av p H HA:=⟨⟨x0,x1,40,by rw [← hHA]; exact aa,ha,hb0,hb1⟩,by rw [← hHA]; exact ax.upd _ _ _⟩
  refine⟨_,rfl,_,rfl,Nat.zero_le _,fun L hL=>⟨_,rfl,?_⟩⟩
  have w1:=wA.new hL (.lst [])
  exact⟨p,b,L,[],ks,ts,fs,rfl,w1.pot,RdV.went hb w1.same,ok,⟨[],aa,.nil⟩,Nat.zero_le _,(fun _ z=>nomatch z),fun v H' t tv st ft w'=>q v H' t tv st (ft.mono (by decide) (by decide)) (w1.trans w')⟩
abbrev ei:Stmt:=top 61
theorem zcy:ak ["_law_pot_here","_law_thing","_law_made"] ["_law_pot_here","_law_thing"] (af ei):=by walk_at "F"
inductive spAsI(n:Nat)(vs:List V)(H:Hp)(Q:VK):Prop where
 | mk:∀ (p:Addr) (v:V) (t:Tr),vs=[.ref p,v]→bc H p→Mix H v t→dep t≤n→sz t≤200000→(∀ u H',Mix H' u t→Em (fun a=>H a=none) H' n u→av p H H'→Q u H')→spAsI n vs H Q
def si(n:Nat):Sp:=fun vs H Q _=>spAsI n vs H Q
def sf:Nat→Sp
 | 0=>fun _ _ _ _=>False
 | n+1=>si n
theorem se{m:Nat}{vs:List V}{H:Hp}{Q:VK}{E:XK}(h:si m vs H Q E):sf (m+1) vs H Q E:=h
theorem lU(F:am K mg "_law_as" ei ["_law_pot_here","_law_thing"])(Z:Bl mg)(D_law_draw:Def P w K mg base "_law_draw" 1 ["_law_pot_here","_law_many"] ca)(n:Nat)(D_law_as:Def P w K mg base "_law_as" (n+1) ["_law_pot_here","_law_thing"] (sf n)):Def P w K mg base "_law_as" (n+2) ["_law_pot_here","_law_thing"] (si n):=by
 have SC:=zcy
 refine F.mk' (k:=n+1) zcy (fun vs H Q E h=>?_) (fun f cdv A outer s H vs Q E hr h=>?_)
 ·obtain⟨p,v,t,rfl,_⟩:=h
  rfl
 ·obtain⟨p,v,t,rfl,hp,ht,hn,hz,q⟩:=h
  refine'⟨_,?derivation,?_⟩
  case derivation=>(have:=aj 5 334 7 34; have:=aj 11 336 66 76; have:=aT 336 4 77 1 ["_law_one","_law_pot_here","_law_thing","_law_made"]; walk_at "S2")
  cases ht with
  | leaf x=>exact⟨_,rfl,_,_,_,rfl,.str _,bX K,true,rfl,ifT rfl ⟨_,rfl,q _ H (.leaf x) (.str x) (av.refl hp)⟩⟩
  | node h r=>
   rename_i a xs ts
   have hd:dep (.node ts)=1+dE ts:=rfl
   rw [hd] at hn
   rw [sz] at hz
   obtain⟨m,rfl⟩:∃ m,n=m+1:=⟨n-1,by omega⟩
   have rl:=r.length
   have zl:=oM ts
   have nap:=uj hp h r
   obtain⟨tt,ty⟩:∃ tt,dW K H (.ref a) tt∧PySem.W.kitOne K tt (.type "str")=Option.some false:=by
    rcases h with h | h
    ·exact⟨_,.lst h,rfl⟩
    ·exact⟨_,.tup h,rfl⟩
   refine⟨_,rfl,_,_,false,rfl,ty.1,ty.2,false,rfl,bI ?_⟩
   refine LT.over (K:=K) h rfl fun J O cl C ex s0 Hc=>O.comp (fun i ys H1=>av p H H1∧bE H1 ys (ts.take i)∧∀ y∈ys,Em (fun a=>H a=none) H1 m y) ⟨av.refl hp,.nil,fun _ z=>nomatch z⟩ (Nat.le_trans (show xs.length≤200000 by omega) (by decide)) (fun i ys H1 _ h1 o e=>h1.1.at nap e) ?_ ?_
   ·rintro i y ys H1 hy yl ⟨w1,m1,n1⟩
    obtain⟨t,ht,tt⟩:=r.get hy
    have dt:=bY (List.mem_of_getElem? ht)
    have st:=oK (List.mem_of_getElem? ht)
    refine⟨_,rfl,_,rfl,?_⟩
    refine se (E:=E0) ⟨p,y,t,rfl,w1.pot,me hp w1.same tt,by omega,by omega,fun u H2 mu eu w2=>⟨w1.trans w2,?_,?_⟩⟩
    ·rw [List.take_succ,ht]
     exact bE.snoc (eO w1.pot w2.same m1) mu
    ·intro z hz
     rcases List.mem_append.mp hz with hz | hz
     ·exact(n1 z hz).went hp.some w1.pot w2.same
     ·rw [List.mem_singleton.mp hz]
      exact eu.mono (fun a ha=>w1.none ha) (fun _ _ e=>e) fun _ _ _ e=>e
   ·rintro ys H1 yl ⟨w1,m1,n1⟩ D hD
    rw [rl,List.take_length] at m1
    have w2:=w1.new hD (.lst ys)
    have w2':=(av.refl w1.pot).new hD (.lst ys)
    have nD:D≠p:=Ne.symm (w1.ne hD)
    refine⟨_,rfl,_,rfl,D,ys,rfl,.inl ⟨SqL.of aa,fun t2 ht2=>⟨(by show 2≤sizeLine; decide),fun L hL=>?_⟩⟩⟩
    have w3:=(w2.new ht2 (.tup ys)).new hL (.lst [.ref D,.ref t2])
    have w3':=((av.refl w2.pot).new ht2 (.tup ys)).new hL (.lst [.ref D,.ref t2])
    have nL:L≠p:=Ne.symm ((w2.new ht2 (.tup ys)).ne hL)
    have nt:t2≠p:=Ne.symm (w2.ne ht2)
    refine⟨_,rfl,p,2,rfl,w3.pot,by decide,by decide,fun r2 H3 r0 r1 p3 s3=>?_⟩
    have w4:=w3.mk1 p3 s3
    have eD:H3 D=some (.lst ys):=s3 _ _ nD ((ac hL _) _ _ ((ac ht2 _) _ _ aa))
    have et:H3 t2=some (.tup ys):=s3 _ _ nt ((ac hL _) _ _ aa)
    have m3:bE H3 ys ts:=eO w3.pot s3 (bO (ac hL _) (bO (ac ht2 _) (bO (ac hD _) m1)))
    have n3:∀ y∈ys,Em (fun a=>H a=none) H3 m y:=fun y hy=>(((n1 y hy).went hp.some w1.pot w2'.same).went hp.some w2.pot w3'.same).went hp.some w3.pot s3
    have hc:r2=0∨r2=1:=by omega
    rcases hc with rfl | rfl
    ·exact⟨L,_,0,.ref D,rfl,rfl,SqL.of (s3 _ _ nL aa),rfl,q _ _ (.node (.inl eD) m3) (.lst (w1.none hD) eD n3) w4⟩
    ·exact⟨L,_,1,.ref t2,rfl,rfl,SqL.of (s3 _ _ nL aa),rfl,q _ _ (.node (.inr et) m3) (.tup et n3) w4⟩
theorem yv(F:am K mg "_law_as" ei ["_law_pot_here","_law_thing"]):Def P w K mg base "_law_as" 1 ["_law_pot_here","_law_thing"] (sf 0):=
 F.mk' (k:=0) zcy (fun vs H Q E h=>False.elim h) fun f cdv A outer s H vs Q E hr h=>False.elim h
theorem xq(F:am K mg "_law_as" ei ["_law_pot_here","_law_thing"])(Z:Bl mg)(D_law_draw:Def P w K mg base "_law_draw" 1 ["_law_pot_here","_law_many"] ca):∀ n,Def P w K mg base "_law_as" (n+2) ["_law_pot_here","_law_thing"] (si n)
 | 0=>lU F Z D_law_draw 0 (yv F)
 | n+1=>lU F Z D_law_draw (n+1) (xq F Z D_law_draw n)
end
structure ClX(K:PySem.W.Frag)(C:Addr):Prop where
 cl:Cls K C
 n1:bd K C "kept_signs"
 n2:bd K C "kept_sayings"
local macro_rules | `(tactic| walk_at "K")=>`(tactic| exact ‹ClX _ _›.cl)
def fx1(g:Addr):List (Str×V):=putF "kept_signs" (.ref g) []
def fx2(g kt:Addr):List (Str×V):=putF "kept_sayings" (.ref kt) (fx1 g)
theorem AF:¬ (("kept_sayings":Str)="kept_signs"):=by decide +kernel
theorem ww(g:Addr):(fx1 g).length<1000:=Nat.lt_of_le_of_lt (ay _ _ _) (by decide)
theorem qL(g kt:Addr):(fx2 g kt).lookup ("kept_signs":Str)=some (.ref g):=by
 unfold fx2
 rw [ah,if_neg (fun z=>AF z.symm)]
 unfold fx1
 rw [ah,if_pos rfl]
theorem mF(g kt:Addr):(fx2 g kt).lookup ("kept_sayings":Str)=some (.ref kt):=by unfold fx2; rw [ah,if_pos rfl]
theorem iX{g kt:Addr}{m:Str}(h1:¬ m="kept_signs")(h2:¬ m="kept_sayings"):(fx2 g kt).lookup m=none:=by
 unfold fx2
 rw [ah,if_neg h2]
 unfold fx1
 rw [ah,if_neg h1]
 rfl
def dF(ks:List Str)(ts:List ar)(fs:List aq)(l:List Tr):Prop:=∀ t∈l,b6 ks ts fs (fun _=>none) t∧Fit 7 20000 t
def cf(C CX:Addr)(H:Hp)(x:Addr)(ks:List Str)(ts:List ar)(fs:List aq)(l:List Tr):Prop:=
 ∃ dx g kt ys,H x=some (.ins CX dx (fx2 g kt))∧aH C H g ks ts fs∧H kt=some (.tup ys)∧aQ H ys l
theorem cf.same{C CX:Addr}{H H':Hp}{x:Addr}{ks:List Str}{ts:List ar}{fs:List aq}{l:List Tr}(h:cf C CX H x ks ts fs l)(s:Same H H'):cf C CX H' x ks ts fs l:=by
 obtain⟨dx,g,kt,ys,h1,h2,h3,h4⟩:=h
 exact⟨dx,g,kt,ys,s _ _ h1,h2.same s,s _ _ h3,ap (Few.Same.tups s) h4⟩
section
abbrev bR:Stmt:=top 14
theorem zcz:ak ["signs","things"] ["signs","things"] (af bR):=by walk_at "F"
inductive spAllI(C:Addr)(vs:List V)(H:Hp)(Q:VK):Prop where
 | mk:∀ (g a:Addr) (xs:List V) (ks:List Str) (ts:List ar) (fs:List aq) (l:List Tr),vs=[.ref g,.ref a]→aH C H g ks ts fs→au ks ts fs→LT H a xs→bE H xs l→dF ks ts fs l→l.length≤100→(∀ D ys H',H D=none→H' D=some (.lst ys)→aQ H' ys l→Same H H'→Q (.ref D) H')→spAllI C vs H Q
def xh(C:Addr):Sp:=fun vs H Q _=>spAllI C vs H Q
theorem yw{C:Addr}(F:am K mg "all_looked_over" bR ["signs","things"])(Z:Bl mg)(D_is_list:Def P w K mg base "is_list" 1 ["thing"] ck)(D_looked_over:Def P w K mg base "looked_over" 30 ["signs","thing"] (ke C)):Def P w K mg base "all_looked_over" 31 ["signs","things"] (xh C):=by
 have SC:=zcz
 refine F.mk' (k:=30) zcz (fun vs H Q E h=>?_) (fun f cdv A outer s H vs Q E hr h=>?_)
 ·obtain⟨g,a,xs,ks,ts,fs,l,rfl,_⟩:=h
  rfl
 ·obtain⟨g,a,xs,ks,ts,fs,l,rfl,hS,ok,ha,hm,hs,hl,q⟩:=h
  refine'⟨_,?derivation,?_⟩
  case derivation=>(have:=aT 35 11 58 1 ["thing","signs","things"]; have:=aj 11 35 51 57; walk_at "S2")
  refine⟨_,rfl,a,xs,rfl,ha,fun H1 s1=>⟨true,rfl,bI ?_⟩⟩
  have ml:=hm.length
  refine LT.over (K:=K) (ha.same s1) rfl fun J O cl C1 ex s0 Hc=>O.comp (fun i ys H2=>Same H H2∧aQ H2 ys (l.take i)) ⟨s1,.nil⟩ (Nat.le_trans (show xs.length≤100 by omega) (by decide)) (fun i ys H2 _ h2 o e=>?_) ?_ ?_
  ·rcases ha with z | z
   ·rw [s1 _ _ z] at e; rw [← e]; exact h2.1 _ _ z
   ·rw [s1 _ _ z] at e; rw [← e]; exact h2.1 _ _ z
  ·rintro i y ys H2 hy yl ⟨s2,m2⟩
   obtain⟨t,ht,tt⟩:=hm.get hy
   obtain⟨h1,h2⟩:=hs t (List.mem_of_getElem? ht)
   refine⟨_,rfl,_,rfl,g,y,ks,ts,fs,t,rfl,hS.same s2,ok,cq s2 tt,h1,Nat.le_trans h2.dp (by decide),fun u H3 tu s3=>⟨s2.trans s3,?_⟩⟩
   rw [List.take_succ,ht]
   exact aQ.snoc (ap (Few.Same.tups s3) m2) tu
  ·rintro ys H2 yl ⟨s2,m2⟩ D hD
   rw [ml,List.take_length] at m2
   have hDf:H D=none:=by
    cases e:H D with
    | none=>rfl
    | some o=>rw [s2 _ _ e] at hD; cases hD
   exact q D ys _ hDf aa (ap (Few.Same.tups (ac hD _)) m2) (s2.trans (ac hD _))
abbrev cO:Stmt:=cF (top 41) 0
theorem zc0:ak ["self","signs","sayings"] ["self","signs","sayings"] (af cO):=by walk_at "F"
inductive spTextInitI(C:Addr)(CX:Addr)(vs:List V)(H:Hp)(Q:VK):Prop where
 | mk:∀ (x dx g a:Addr) (xs:List V) (ks:List Str) (ts:List ar) (fs:List aq) (l:List Tr),vs=[.ref x,.ref g,.ref a]→H x=some (.ins CX dx [])→aH C H g ks ts fs→au ks ts fs→LT H a xs→bE H xs l→dF ks ts fs l→l.length≤100→g≠x→(∀ H',cf C CX H' x ks ts fs l→ax x H H'→Q .non H')→spTextInitI C CX vs H Q
def fe(C CX:Addr):Sp:=fun vs H Q _=>spTextInitI C CX vs H Q
mutual
theorem zI{H H':Hp}{x C dx:Addr}{fl:List (Str×V)}(hx:H x=some (.ins C dx fl))(s:ax x H H'):∀ {v:V} {t:Tr},Mix H v t→Mix H' v t
 | _,_,.leaf z=>.leaf z
 | _,_,.node h r=>.node (h.mono fun o e=>s _ o (h.neIns hx) e) (nP hx s r)
theorem nP{H H':Hp}{x C dx:Addr}{fl:List (Str×V)}(hx:H x=some (.ins C dx fl))(s:ax x H H'):∀ {v:List V} {t:List Tr},bE H v t→bE H' v t
 | _,_,.nil=>.nil
 | _,_,.cons a r=>.cons (zI hx s a) (nP hx s r)
end
theorem rz{H H':Hp}{x C dx:Addr}{fl:List (Str×V)}(hx:H x=some (.ins C dx fl))(s:ax x H H'):cP H H':=fun a xs e=>s a _ (by rintro rfl; rw [hx] at e; cases e) e
theorem lO{f C CX:Addr}{fd:FuncData}(F:Fun K "__init__" "Text.__init__" cO f fd)(Z:Bl mg)(TX:ClX K CX)(D_all_looked_over:Def P w K mg base "all_looked_over" 31 ["signs","things"] (xh C)):aZ P w K mg base CX0 32 f fd ["self","signs","sayings"] (fe C CX):=by
 have SC:=zc0
 refine F.ok zc0 (fun vs H Q E h=>?_) (fun cdv A outer s H vs Q E hr h=>?_)
 ·obtain⟨x,dx,g,a,xs,ks,ts,fs,l,rfl,_⟩:=h
  rfl
 ·obtain⟨x,dx,g,a,xs,ks,ts,fs,l,rfl,hx,hS,ok,ha,hm,hs,hl,gx,q⟩:=h
  refine'⟨_,?derivation,?_⟩
  case derivation=>(walk_at "S2")
  refine⟨_,rfl,_,rfl,x,CX,dx,_,rfl,hx,TX.cl,TX.n1,by decide,?_⟩
  have S1:ax x H (upd H x (.ins CX dx (putF "kept_signs" (.ref g) []))):=ax.upd _ _ _
  have x1:upd H x (.ins CX dx (putF "kept_signs" (.ref g) [])) x=some (.ins CX dx (fx1 g)):=aa
  generalize (upd H x (.ins CX dx (putF "kept_signs" (.ref g) [])))=H1 at S1 x1
  have gS1:aH C H1 g ks ts fs:=hS.keep (fun o e=>S1 g o gx e) (rz hx S1)
  refine⟨_,rfl,_,rfl,g,a,xs,ks,ts,fs,l,rfl,gS1,ok,ha.mono (fun o e=>S1 a o (ha.neIns hx) e),nP hx S1 hm,hs,hl,fun D ys H2 hD eD tD s2=>?_⟩
  refine⟨D,ys,rfl,.inl ⟨SqL.of eD,fun kt hkt=>?_⟩⟩
  have s3:=s2.trans (ac hkt (.tup ys))
  have x3:=s3 _ _ x1
  refine⟨_,rfl,x,CX,dx,_,rfl,x3,TX.cl,TX.n2,ww _,?_⟩
  have S4:ax x (upd H2 kt (.tup ys)) (upd (upd H2 kt (.tup ys)) x (.ins CX dx (putF "kept_sayings" (.ref kt) (fx1 g)))):=ax.upd _ _ _
  have T4:=rz x3 S4
  refine q _ ⟨dx,g,kt,ys,aa,(gS1.same s3).keep (fun o e=>S4 g o gx e) T4,T4 _ _ aa,ap T4 (ap (Few.Same.tups (ac hkt _)) tD)⟩ ((S1.same s3).trans S4)
abbrev en:Stmt:=cF (top 41) 1
theorem zc1:ak ["self"] ["self"] (af en):=by walk_at "F"
inductive spTSignsI(C:Addr)(CX:Addr)(vs:List V)(H:Hp)(Q:VK):Prop where
 | mk:∀ (x:Addr) (ks:List Str) (ts:List ar) (fs:List aq) (l:List Tr),vs=[.ref x]→cf C CX H x ks ts fs l→(∀ g,aH C H g ks ts fs→Q (.ref g) H)→spTSignsI C CX vs H Q
def iC(C CX:Addr):Sp:=fun vs H Q _=>spTSignsI C CX vs H Q
theorem qi{f C CX:Addr}{fd:FuncData}(F:Fun K "signs" "Text.signs" en f fd)(Z:Bl mg)(TX:ClX K CX):aZ P w K mg base CX0 1 f fd ["self"] (iC C CX):=by
 have SC:=zc1
 refine F.ok zc1 (fun vs H Q E h=>?_) (fun cdv A outer s H vs Q E hr h=>?_)
 ·obtain⟨x,ks,ts,fs,l,rfl,_⟩:=h
  rfl
 ·obtain⟨x,ks,ts,fs,l,rfl,⟨dx,g,kt,ys,h1,h2,h3,h4⟩,q⟩:=h
  refine'⟨_,?derivation,?_⟩
  case derivation=>(walk_at "S1")
  exact⟨_,rfl,x,CX,dx,_,_,rfl,h1,TX.cl,TX.n1,qL _ _,q g h2⟩
abbrev dh:Stmt:=cF (top 41) 2
theorem zc2:ak ["self"] ["self"] (af dh):=by walk_at "F"
inductive spTSaysI(C:Addr)(CX:Addr)(vs:List V)(H:Hp)(Q:VK):Prop where
 | mk:∀ (x:Addr) (ks:List Str) (ts:List ar) (fs:List aq) (l:List Tr),vs=[.ref x]→cf C CX H x ks ts fs l→(∀ a ys,H a=none→aQ H ys l→Q (.ref a) (upd H a (.lst ys)))→spTSaysI C CX vs H Q
def j7(C CX:Addr):Sp:=fun vs H Q _=>spTSaysI C CX vs H Q
theorem tP{f C CX:Addr}{fd:FuncData}(F:Fun K "sayings" "Text.sayings" dh f fd)(Z:Bl mg)(TX:ClX K CX):aZ P w K mg base CX0 1 f fd ["self"] (j7 C CX):=by
 have SC:=zc2
 refine F.ok zc2 (fun vs H Q E h=>?_) (fun cdv A outer s H vs Q E hr h=>?_)
 ·obtain⟨x,ks,ts,fs,l,rfl,_⟩:=h
  rfl
 ·obtain⟨x,ks,ts,fs,l,rfl,⟨dx,g,kt,ys,h1,h2,h3,h4⟩,q⟩:=h
  refine'⟨_,?derivation,?_⟩
  case derivation=>(walk_at "S1")
  exact⟨_,rfl,x,CX,dx,_,_,rfl,h1,TX.cl,TX.n2,mF _ _,kt,_,rfl,.inr (SqT.of h3),fun a ha=>q a ys ha h4⟩
end
def gF(k:Str):List Str:=["kind",k]
def lG(t:ar):List Str:="tie"::t.nm::t.ps
def kq(f:aq):List Str:="function"::f.nm::(f.ps++[f.kd])
def fu(t:Tr):List Str:=["say",wr t]
def aJ(ks:List Str)(ts:List ar)(fs:List aq)(l:List Tr):List (List Str):=ks.map gF++ts.map lG++fs.map kq++l.map fu
def line(ws:List Str):Str:=Str.join " " ws++"\n"
def bu(rs:List (List Str)):Str:=Str.join "" (rs.map line)
def wT(H:Hp)(v:V)(ws:List Str):Prop:=∃ a,v=.ref a∧H a=some (.tup (ws.map V.str))
theorem wT.keep{H H':Hp}{v:V}{ws:List Str}(h:wT H v ws)(s:cP H H'):wT H' v ws:=let ⟨a,e,q⟩:=h; ⟨a,e,s _ _ q⟩
abbrev aE(H:Hp):List V→List (List Str)→Prop:=Paired (wT H)
theorem aE.keep{H H':Hp}{vs:List V}{ws:List (List Str)}(h:aE H vs ws)(s:cP H H'):aE H' vs ws:=Paired.mapP h fun _ _ z=>z.keep s
theorem ga{H:Hp}:∀ {a b:List V} {x y:List (List Str)},aE H a x→aE H b y→aE H (a++b) (x++y)
 | _,_,_,_,.nil,s=>s
 | _,_,_,_,.cons r t,s=>.cons r (ga t s)
theorem cj:∀ rs:List (List Str),((rs.map line).map (·.length)).sum=(bu rs).length
 | []=>rfl
 | [a]=>by
  show (line a).length+0=(line a).length
  omega
 | a::b::r=>by
  have ih:=cj (b::r)
  have e:bu (a::b::r)=line a++""++bu (b::r):=rfl
  have e0:("":Str).length=0:=rfl
  rw [e,bj,bj,← ih,List.map_cons,List.map_cons,List.sum_cons]
  omega
theorem mr{rs:List (List Str)}{ws:List Str}(h:ws∈rs):(line ws).length≤(bu rs).length:=by
 rw [← cj]
 have : ∀ (l:List Nat) (x:Nat),x∈l→x≤l.sum:=by
  intro l
  induction l with
  | nil=>intro x h; cases h
  | cons y r ih=>
   intro x h
   rw [List.sum_cons]
   rcases List.mem_cons.mp h with rfl | h
   ·omega
   ·have:=ih x h; omega
 exact this _ _ (List.mem_map.mpr ⟨line ws,List.mem_map.mpr ⟨ws,h,rfl⟩,rfl⟩)
theorem dA(ws:List Str):(line ws).length=(Str.join " " ws).length+1:=by
 unfold line
 rw [bj]
 rfl
theorem iH(ks:List Str)(ts:List ar)(fs:List aq)(l:List Tr):(aJ ks ts fs l).length=ks.length+ts.length+fs.length+l.length:=by
 unfold aJ
 simp only [List.length_append,List.length_map]
section
abbrev dH:Stmt:=top 43
theorem zc3:ak ["text","signs","rows"] ["text"] (af dH):=by walk_at "F"
inductive spWTextI(C:Addr)(CX:Addr)(vs:List V)(H:Hp)(Q:VK):Prop where
 | mk:∀ (x:Addr) (ks:List Str) (ts:List ar) (fs:List aq) (l:List Tr),vs=[.ref x]→cf C CX H x ks ts fs l→au ks ts fs→dF ks ts fs l→l.length≤10→(bu (aJ ks ts fs l)).length≤200000→(∀ H',Same H H'→Q (.str (bu (aJ ks ts fs l))) H')→spWTextI C CX vs H Q
def oQ(C CX:Addr):Sp:=fun vs H Q _=>spWTextI C CX vs H Q
theorem tM{C CX f1 f2 f3 f4 f5:Addr}{fd1 fd2 fd3 fd4 fd5:FuncData}(F:am K mg "write_text" dH ["text"])(Z:Bl mg)(T:ClS K C)(TX:ClX K CX)
  (m_kinds:fQ K C "kinds" f1) (G_kinds:aZ P w K mg base CX0 1 f1 fd1 ["self"] (ij C)) (b_kinds:aU K fd1 ["self"] [])
  (m_ties:fQ K C "ties" f2) (G_ties:aZ P w K mg base CX0 1 f2 fd2 ["self"] (ii C)) (b_ties:aU K fd2 ["self"] [])
  (m_functions:fQ K C "functions" f3) (G_functions:aZ P w K mg base CX0 1 f3 fd3 ["self"] (ik C)) (b_functions:aU K fd3 ["self"] [])
  (m_signs:fQ K CX "signs" f4) (G_signs:aZ P w K mg base CX0 1 f4 fd4 ["self"] (iC C CX)) (b_signs:aU K fd4 ["self"] [])
  (m_sayings:fQ K CX "sayings" f5) (G_sayings:aZ P w K mg base CX0 1 f5 fd5 ["self"] (j7 C CX)) (b_sayings:aU K fd5 ["self"] [])
  (D_write_saying:Def P w K mg base "write_saying" 31 ["signs","saying"] (oP C)):Def P w K mg base "write_text" 32 ["text"] (oQ C CX):=by
 have SC:=zc3
 refine F.mk' (k:=31) zc3 (fun vs H Q E h=>?_) (fun f cdv A outer s H vs Q E hr h=>?_)
 ·obtain⟨x,ks,ts,fs,l,rfl,_⟩:=h
  rfl
 ·obtain⟨x,ks,ts,fs,l,rfl,hx,ok,hs,hl,ht,q⟩:=h
  refine'⟨_,?derivation,?_⟩
  case derivation=>(have:=aj 31 206 11 58; have:=aj 14 203 17 39; have:=aj 14 204 17 54; have:=aj 2 206 20 40; have:=aj 14 204 17 44; have:=aj 32 206 20 33; have:=aT 203 16 73 2 ["name","places","text","signs","rows"]; have:=aT 204 16 99 3 ["name","places","kind","text","signs","rows"]; have:=aT 205 16 83 1 ["saying","text","signs","rows"]; have:=aT 206 19 57 1 ["row","text","signs","rows"]; have:=aT 202 4 53 1 ["kind","text","signs","rows"]; walk_at "S2")
  obtain⟨dx,g0,kt,ys0,x1,x2,x3,x4⟩:=id hx
  have ok8:=ok.sl
  have ok4:=ok.k4
  have rl:=iH ks ts fs l
  refine⟨_,rfl,x,dx,_,rfl,x1,iX (by decide +kernel) (by decide +kernel),x,ks,ts,fs,l,rfl,hx,fun g hg=>?_⟩
  have sig:∀ {G:Hp},Same H G→∃ dg kt tt ft,G g=some (.ins C dg (flF kt tt ft)):=fun s=>by
   obtain⟨dg,kt,tt,ft,_,_,z,_⟩:=hg.same s
   exact⟨dg,kt,tt,ft,z⟩
  obtain⟨dg,k1,k2,k3,z1⟩:=sig (Same.refl H)
  refine⟨_,rfl,g,dg,_,rfl,z1,iQ,g,ks,ts,fs,rfl,hg,fun a ha=>⟨a,rfl,⟨_,SqL.of aa⟩,fun cl C1 ex s0 Hc=>?_⟩⟩
  have sa:=ac ha (.lst (ks.map V.str))
  have ea:upd H a (.lst (ks.map V.str)) a=some (.lst (ks.map V.str)):=aa
  generalize upd H a (.lst (ks.map V.str))=HA at sa ea
  refine aN (ks.map V.str).length (fun i ys H2=>Same HA H2∧aE H2 ys ((ks.take i).map gF)) (fun i y=>(ks.map V.str)[i]? = some y) ⟨Same.refl _,.nil⟩ (by rw [List.length_map]; exact Nat.le_trans ok4 (by decide))
   (fun i ys H2 hi _ h=>bm (SqL.of (h.1 _ _ ea)) hi) (fun ys H2 _ h=>aO (SqL.of (h.1 _ _ ea))) ?_ ?_
  ·rintro i y ys H2 hi hy yl ⟨s2,r2⟩
   rw [List.getElem?_map] at hy
   obtain⟨k,hk,rfl⟩:=Option.map_eq_some_iff.mp hy
   refine⟨_,rfl,(by show 2≤sizeLine; decide),fun p hp=>⟨s2.trans (ac hp _),?_⟩⟩
   rw [List.take_succ,hk,List.map_append]
   exact bf ⟨p,rfl,aa⟩ (aE.keep r2 (Few.Same.tups (ac hp _)))
  rintro ys1 H1 yl1 ⟨s1,r1⟩ R hR
  rw [List.length_map,List.take_length] at r1
  have hRH:H R=none:=by
   cases e:H R with
   | none=>rfl
   | some o=>rw [s1 _ _ (sa _ _ e)] at hR; cases hR
  have sR:Same H (upd H1 R (.lst ys1)):=(sa.trans s1).trans (ac hR _)
  have eR:upd H1 R (.lst ys1) R=some (.lst ys1):=aa
  have rR:=aE.keep r1 (Few.Same.tups (ac hR (.lst ys1)))
  have l1:ys1.length=ks.length:=by rw [Paired.length rR,List.length_map]
  generalize upd H1 R (.lst ys1)=HR at sR eR rR
  have put:∀ {G:Hp} {vs:List V} {wss:List (List Str)} (us:List V),Same H G→G R=some (.lst vs)→aE G vs wss→Same H (upd G R (.lst us))∧cP G (upd G R (.lst us)):=fun us s e r=>⟨fun b o h=>by rw [ad (ae h hRH)]; exact s b o h,fun b xs h=>by
   rw [ad (by rintro rfl; rw [e] at h; cases h)]; exact h⟩
  obtain⟨dg,k1,k2,k3,z2⟩:=sig sR
  refine⟨_,rfl,.inl ⟨rfl,_,SqL.of eR⟩,_,rfl,g,dg,_,rfl,z2,kG,g,ks,ts,fs,rfl,hg.same sR,fun a tv ha rt=>⟨a,rfl,⟨_,SqL.of aa⟩,fun cl C1 ex s0 Hc=>?_⟩⟩
  have sb:=ac ha (.lst tv)
  have eb:upd HR a (.lst tv) a=some (.lst tv):=aa
  have rtb:=rt.same sb
  generalize upd HR a (.lst tv)=HB at sb eb rtb
  have tl:tv.length=ts.length:=by rw [RdA.length rtb,List.length_map]
  refine mL (K:=K) tv.length (fun i ys H2=>Same HB H2∧aE H2 ys ((ts.take i).map lG)) (fun i u v=>∃ t pp,ts[i]? = some t∧u=.str t.nm∧v=.ref pp∧HB pp=some (.tup (t.ps.map V.str))) ⟨Same.refl _,.nil⟩ (Nat.le_trans (show tv.length≤8 by omega) (by decide))
   (fun i ys H2 hi _ h=>?_) (fun ys H2 _ h=>aO (SqL.of (h.1 _ _ eb))) ?_ ?_
  ·obtain⟨q1,q2⟩:=bm (K:=K) (SqL.of (h.1 _ _ eb)) hi
   refine⟨q1,fun y H' yy=>?_⟩
   obtain⟨rfl,hy⟩:=q2 y H' yy
   obtain⟨d,hd,rd⟩:=rtb.getV hy
   rw [List.getElem?_map] at hd
   obtain⟨t,ht,rfl⟩:=Option.map_eq_some_iff.mp hd
   obtain⟨py,px,rfl,_,hpy,hpx⟩:=RdV.tuple_inv rd
   obtain⟨a1,a2,rfl,r1,r2⟩:=hpx.two
   obtain rfl:=r1.str_inv
   obtain⟨pp,ppx,rfl,_,hpp,hps⟩:=r2.tuple_inv
   obtain rfl:=hps.strs_inv
   exact⟨rfl,py,_,_,rfl,SqT.of (h.1 _ _ hpy),t,pp,ht,rfl,rfl,hpp⟩
  ·rintro i u v ys H2 hi ⟨t,pp,ht,rfl,rfl,hpp⟩ yl ⟨s2,r2⟩
   have t2:=(ok.tn t (List.mem_of_getElem? ht)).2.1
   refine⟨_,rfl,(by show 2≤sizeLine; decide),fun p hp=>⟨_,rfl,?_⟩⟩
   have sp:=ac hp (.tup [.str "tie",.str t.nm])
   refine fM aa (sp _ _ (s2 _ _ hpp)) (by rw [List.length_map]; exact Nat.le_trans (show 2+t.ps.length≤4 by omega) (by decide)) fun p2 H3 e3 s3=>⟨(s2.trans sp).trans s3,?_⟩
   rw [List.take_succ,ht,List.map_append]
   exact bf ⟨p2,rfl,e3⟩ (aE.keep r2 (Few.Same.tups (sp.trans s3)))
  rintro ys2 H2 yl2 ⟨s2,r2⟩ D2 hD2
  rw [tl,List.take_length] at r2
  have sD:=(sb.trans s2).trans (ac hD2 (.lst ys2))
  have eR2:=sD _ _ eR
  refine⟨R,D2,ys1,ys2,rfl,rfl,eR2,aa,Nat.le_trans (show ys1.length+ys2.length≤12 by omega) (by decide),?_⟩
  obtain⟨sR2,tR2⟩:=put (ys1++ys2) (sR.trans sD) eR2 (aE.keep rR (Few.Same.tups sD))
  have rR2:=ga (aE.keep (aE.keep rR (Few.Same.tups sD)) tR2) (aE.keep (aE.keep r2 (Few.Same.tups (ac hD2 _))) tR2)
  have eQ2:upd (upd H2 D2 (.lst ys2)) R (.lst (ys1++ys2)) R=some (.lst (ys1++ys2)):=aa
  generalize upd (upd H2 D2 (.lst ys2)) R (.lst (ys1++ys2))=HR2 at sR2 rR2 eQ2
  obtain⟨dg,k1,k2,k3,z3⟩:=sig sR2
  refine⟨_,rfl,.inl ⟨rfl,_,SqL.of eQ2⟩,_,rfl,g,dg,_,rfl,z3,cE,g,ks,ts,fs,rfl,hg.same sR2,fun a fv ha rf=>⟨a,rfl,⟨_,SqL.of aa⟩,fun cl C1 ex s0 Hc=>?_⟩⟩
  have sb:=ac ha (.lst fv)
  have eb:upd HR2 a (.lst fv) a=some (.lst fv):=aa
  have rfb:=rf.same sb
  generalize upd HR2 a (.lst fv)=HB at sb eb rfb
  have fl:fv.length=fs.length:=by rw [RdA.length rfb,List.length_map]
  refine mK (K:=K) fv.length (fun i ys H2=>Same HB H2∧aE H2 ys ((fs.take i).map kq)) (fun i u v w=>∃ t pp,fs[i]? = some t∧u=.str t.nm∧v=.ref pp∧w=.str t.kd∧HB pp=some (.tup (t.ps.map V.str))) ⟨Same.refl _,.nil⟩ (Nat.le_trans (show fv.length≤8 by omega) (by decide))
   (fun i ys H2 hi _ h=>?_) (fun ys H2 _ h=>aO (SqL.of (h.1 _ _ eb))) ?_ ?_
  ·obtain⟨q1,q2⟩:=bm (K:=K) (SqL.of (h.1 _ _ eb)) hi
   refine⟨q1,fun y H' yy=>?_⟩
   obtain⟨rfl,hy⟩:=q2 y H' yy
   obtain⟨d,hd,rd⟩:=rfb.getV hy
   rw [List.getElem?_map] at hd
   obtain⟨t,ht,rfl⟩:=Option.map_eq_some_iff.mp hd
   obtain⟨py,px,rfl,_,hpy,hpx⟩:=RdV.tuple_inv rd
   obtain⟨a1,a2,a3,rfl,r1,r2,r3⟩:=hpx.three
   obtain rfl:=r1.str_inv
   obtain rfl:=r3.str_inv
   obtain⟨pp,ppx,rfl,_,hpp,hps⟩:=r2.tuple_inv
   obtain rfl:=hps.strs_inv
   exact⟨rfl,py,_,_,_,rfl,SqT.of (h.1 _ _ hpy),t,pp,ht,rfl,rfl,rfl,hpp⟩
  ·rintro i u v w' ys H2 hi ⟨t,pp,ht,rfl,rfl,rfl,hpp⟩ yl ⟨s2,r2⟩
   have t2:=(ok.fn t (List.mem_of_getElem? ht)).2.1
   refine⟨_,rfl,(by show 2≤sizeLine; decide),fun p hp=>⟨_,rfl,?_⟩⟩
   have sp:=ac hp (.tup [.str "function",.str t.nm])
   refine fM aa (sp _ _ (s2 _ _ hpp)) (by rw [List.length_map]; exact Nat.le_trans (show 2+t.ps.length≤4 by omega) (by decide)) fun p2 H3 e3 s3=>⟨_,rfl,(by show 1≤sizeLine; decide),fun p3 hp3=>?_⟩
   have sq:=ac hp3 (.tup [.str t.kd])
   refine fM (sq _ _ e3) aa (by simp only [List.length_append,List.length_map]; exact Nat.le_trans (show 2+t.ps.length+1≤5 by omega) (by decide)) fun p4 H5 e5 s5=>⟨(((s2.trans sp).trans s3).trans sq).trans s5,?_⟩
   rw [List.take_succ,ht,List.map_append]
   refine bf ⟨p4,rfl,?_⟩ (aE.keep r2 (Few.Same.tups (((sp.trans s3).trans sq).trans s5)))
   rw [e5]
   unfold kq
   simp
  rintro ys3 H3 yl3 ⟨s3,r3⟩ D3 hD3
  rw [fl,List.take_length] at r3
  have sE:=(sb.trans s3).trans (ac hD3 (.lst ys3))
  have eR3:=sE _ _ eQ2
  have l2:ys2.length=ts.length:=by rw [Paired.length r2,List.length_map]
  refine⟨R,D3,_,ys3,rfl,rfl,eR3,aa,Nat.le_trans (show (ys1++ys2).length+ys3.length≤20 by rw [List.length_append]; omega) (by decide),?_⟩
  obtain⟨sR3,tR3⟩:=put (ys1++ys2++ys3) (sR2.trans sE) eR3 (aE.keep rR2 (Few.Same.tups sE))
  have rR3:=ga (aE.keep (aE.keep rR2 (Few.Same.tups sE)) tR3) (aE.keep (aE.keep r3 (Few.Same.tups (ac hD3 _))) tR3)
  have eQ3:upd (upd H3 D3 (.lst ys3)) R (.lst (ys1++ys2++ys3)) R=some (.lst (ys1++ys2++ys3)):=aa
  generalize upd (upd H3 D3 (.lst ys3)) R (.lst (ys1++ys2++ys3))=HR3 at sR3 rR3 eQ3
  have l3:ys3.length=fs.length:=by rw [Paired.length r3,List.length_map]
  have hx3:=hx.same sR3
  obtain⟨dx3,g3,kt3,ys03,w1,w2,w3,w4⟩:=id hx3
  refine⟨_,rfl,.inl ⟨rfl,_,SqL.of eQ3⟩,_,rfl,x,dx3,_,rfl,w1,iX (by decide +kernel) (by decide +kernel),x,ks,ts,fs,l,rfl,hx3,fun a sv ha rs=>⟨a,rfl,⟨_,SqL.of aa⟩,fun cl C1 ex s0 Hc=>?_⟩⟩
  have sb:=ac ha (.lst sv)
  have eb:upd HR3 a (.lst sv) a=some (.lst sv):=aa
  have rsb:=ap (Few.Same.tups sb) rs
  generalize upd HR3 a (.lst sv)=HB at sb eb rsb
  have sl:sv.length=l.length:=aQ.length rsb
  refine aN sv.length (fun i ys H2=>Same HB H2∧aE H2 ys ((l.take i).map fu)) (fun i y=>sv[i]? = some y) ⟨Same.refl _,.nil⟩ (Nat.le_trans (show sv.length≤10 by omega) (by decide))
   (fun i ys H2 hi _ h=>bm (SqL.of (h.1 _ _ eb)) hi) (fun ys H2 _ h=>aO (SqL.of (h.1 _ _ eb))) ?_ ?_
  ·rintro i y ys H2 hi hy yl ⟨s2,r2⟩
   obtain⟨t,ht',tt⟩:=rsb.get hy
   obtain⟨h1,h2⟩:=hs t (List.mem_of_getElem? ht')
   have wl:(wr t).length≤20000:=Nat.le_trans (jj _) h2.wt
   refine⟨_,rfl,_,rfl,g,y,ks,ts,fs,t,rfl,hg.same ((sR3.trans sb).trans s2),ok,oH (aX (Few.Same.tups s2) tt),h1,Nat.le_trans h2.dp (by decide),by omega,fun H4 s4=>⟨(by show 2≤sizeLine; decide),fun p hp=>⟨(s2.trans s4).trans (ac hp _),?_⟩⟩⟩
   rw [List.take_succ,ht',List.map_append]
   exact bf ⟨p,rfl,aa⟩ (aE.keep r2 (Few.Same.tups (s4.trans (ac hp _))))
  rintro ys4 H4 yl4 ⟨s4,r4⟩ D4 hD4
  rw [sl,List.take_length] at r4
  have sF:=(sb.trans s4).trans (ac hD4 (.lst ys4))
  have eR4:=sF _ _ eQ3
  refine⟨R,D4,_,ys4,rfl,rfl,eR4,aa,Nat.le_trans (show (ys1++ys2++ys3).length+ys4.length≤40 by simp only [List.length_append]; omega) (by decide),?_⟩
  obtain⟨sR4,tR4⟩:=put (ys1++ys2++ys3++ys4) (sR3.trans sF) eR4 (aE.keep rR3 (Few.Same.tups sF))
  have rR4:=ga (aE.keep (aE.keep rR3 (Few.Same.tups sF)) tR4) (aE.keep (aE.keep r4 (Few.Same.tups (ac hD4 _))) tR4)
  have eQ4:upd (upd H4 D4 (.lst ys4)) R (.lst (ys1++ys2++ys3++ys4)) R=some (.lst (ys1++ys2++ys3++ys4)):=aa
  generalize upd (upd H4 D4 (.lst ys4)) R (.lst (ys1++ys2++ys3++ys4))=HR4 at sR4 rR4 eQ4
  have rR5:aE HR4 (ys1++ys2++ys3++ys4) (aJ ks ts fs l):=rR4
  have ly:=Paired.length rR5
  generalize ys1++ys2++ys3++ys4=vs at eQ4 rR5 ly
  refine⟨rfl,_,rfl,R,rfl,⟨_,SqL.of eQ4⟩,fun cl C1 ex s0 Hc=>?_⟩
  refine aN vs.length (fun i ys H2=>Same HR4 H2∧ys=(((aJ ks ts fs l).take i).map line).map V.str) (fun i y=>vs[i]? = some y) ⟨Same.refl _,rfl⟩ (Nat.le_trans (show vs.length≤40 by omega) (by decide))
   (fun i ys H2 hi _ h=>bm (SqL.of (h.1 _ _ eQ4)) hi) (fun ys H2 _ h=>aO (SqL.of (h.1 _ _ eQ4))) ?_ ?_
  ·rintro i y ys H2 hi hy yl ⟨s2,rfl⟩
   obtain⟨ws,hws,a,rfl,ea⟩:=fE rR5 hy
   have ll:=mr (List.mem_of_getElem? hws)
   rw [dA] at ll
   have js:=dB ws
   refine⟨rfl,_,rfl," ",a,ws,rfl,rfl,SqT.of (s2 _ _ ea),by decide,by omega,_,_,rfl,rfl,?_,s2,?_⟩
   ·have : ("\n":Str).length=1:=rfl
    exact Nat.le_trans (show (Str.join " " ws).length+("\n":Str).length≤300000 by omega) (by decide)
   ·rw [List.take_succ,hws]
    simp only [Option.toList_some,List.map_append,List.map_cons,List.map_nil]
    rfl
  ·rintro ys5 H5 yl5 ⟨s5,rfl⟩ D5 hD5
   rw [ly,List.take_length]
   refine⟨"",D5,_,rfl,rfl,SqL.of aa,by decide,?_,q _ ((sR4.trans s5).trans (ac hD5 _))⟩
   rw [cj,List.length_map]
   omega
end
theorem vg{R:Addr→Prop}{H:Hp}{v:V}{d:PyData}(h:RdV R H v d):RdV Any H v d:=h.mono (fun _ _=>trivial) fun _ _ _ e=>e
theorem gs{R:Addr→Prop}{H:Hp}:∀ {ts:List ar} {tv:List V},RdA R H tv (ts.map j3)→∃ ab:List (Addr×Addr),tv=ab.map (fun q=>V.ref q.1)∧Sgs H ab (ts.map rG)
 | [],_,.nil=>⟨[],rfl,.nil⟩
 | t::r,_,.cons a b=>by
  obtain⟨ab,rfl,hs⟩:=gs b
  obtain⟨q1,qx,rfl,_,h1,h2⟩:=RdV.tuple_inv a
  obtain⟨u,v,rfl,hu,hv⟩:=h2.two
  obtain rfl:=hu.str_inv
  obtain⟨q2,qy,rfl,_,h3,h4⟩:=hv.list_inv
  obtain rfl:=h4.strs_inv
  exact⟨(q1,q2)::ab,rfl,.cons ⟨.inr h1,.inl h3⟩ hs⟩
theorem gP{R:Addr→Prop}{H:Hp}:∀ {ts:List aq} {tv:List V},RdA R H tv (ts.map jh)→∃ ab:List (Addr×Addr),tv=ab.map (fun q=>V.ref q.1)∧Sgs H ab (ts.map uD)
 | [],_,.nil=>⟨[],rfl,.nil⟩
 | t::r,_,.cons a b=>by
  obtain⟨ab,rfl,hs⟩:=gP b
  obtain⟨q1,qx,rfl,_,h1,h2⟩:=RdV.tuple_inv a
  obtain⟨u,v,x,rfl,hu,hv,hx⟩:=h2.three
  obtain rfl:=hu.str_inv
  obtain rfl:=hx.str_inv
  obtain⟨q2,qy,rfl,_,h3,h4⟩:=hv.list_inv
  obtain rfl:=h4.strs_inv
  exact⟨(q1,q2)::ab,rfl,.cons ⟨.inr h1,.inl h3⟩ hs⟩
theorem wm{xs:List V}{lo hi:Option Int}{y:V}(h:y∈gl xs lo hi):y∈xs:=List.mem_of_mem_drop (List.mem_of_mem_take h)
structure ClD(K:PySem.W.Frag)(C:Addr):Prop where
 cl:Cls K C
 n1:bd K C "latest_sort"
 n2:bd K C "read_kinds"
 n3:bd K C "read_ties"
 n4:bd K C "read_functions"
 n5:bd K C "read_sayings"
local macro_rules | `(tactic| walk_at "K")=>`(tactic| exact ‹ClD _ _›.cl)
theorem zY:¬ (("read_kinds":Str)="latest_sort"):=by decide +kernel
theorem zX:¬ (("read_ties":Str)="latest_sort"):=by decide +kernel
theorem zW:¬ (("read_functions":Str)="latest_sort"):=by decide +kernel
theorem zV:¬ (("read_sayings":Str)="latest_sort"):=by decide +kernel
theorem AY:¬ (("read_ties":Str)="read_kinds"):=by decide +kernel
theorem AX:¬ (("read_functions":Str)="read_kinds"):=by decide +kernel
theorem AW:¬ (("read_sayings":Str)="read_kinds"):=by decide +kernel
theorem AV:¬ (("read_functions":Str)="read_ties"):=by decide +kernel
theorem AU:¬ (("read_sayings":Str)="read_ties"):=by decide +kernel
theorem AT:¬ (("read_sayings":Str)="read_functions"):=by decide +kernel
structure DrX(CD:Addr)(H0 H:Hp)(d dx:Addr)(fl:List (Str×V))(k t f y:Addr)(tv fv sv:List V)(n:Nat)(ks:List Str)(ts:List ar)(fs:List aq)(l:List Tr)(m:Nat):Prop where
 ob:H d=some (.ins CD dx fl)
 ln:fl.length≤m
 a1:fl.lookup ("latest_sort":Str)=some (.int n)
 a2:fl.lookup ("read_kinds":Str)=some (.ref k)
 a3:fl.lookup ("read_ties":Str)=some (.ref t)
 a4:fl.lookup ("read_functions":Str)=some (.ref f)
 a5:fl.lookup ("read_sayings":Str)=some (.ref y)
 f1:H0 d=none
 f2:H0 k=none
 f3:H0 t=none
 f4:H0 f=none
 f5:H0 y=none
 e12:k≠t
 e13:k≠f
 e14:k≠y
 e23:t≠f
 e24:t≠y
 e34:f≠y
 hk:H k=some (.lst (ks.map V.str))
 ht:H t=some (.lst tv)
 rt:RdA (fun a=>a≠k∧a≠t∧a≠f∧a≠y) H tv (ts.map j3)
 hf:H f=some (.lst fv)
 rf:RdA (fun a=>a≠k∧a≠t∧a≠f∧a≠y) H fv (fs.map jh)
 hy:H y=some (.lst sv)
 ry:aQ H sv l
def i8(CD:Addr)(H0 H:Hp)(d:Addr)(n:Nat)(ks:List Str)(ts:List ar)(fs:List aq)(l:List Tr)(m:Nat):Prop:=∃ dx fl k t f y tv fv sv,DrX CD H0 H d dx fl k t f y tv fv sv n ks ts fs l m
mutual
theorem vh{R:Addr→Prop}{H:Hp}{d C dx:Addr}{fl fl':List (Str×V)}(e:H d=some (.ins C dx fl)):∀ {v:V} {p:PyData},RdV R H v p→RdV R (upd H d (.ins C dx fl')) v p
 | _,_,.non=>.non
 | _,_,.bl b=>.bl b
 | _,_,.int i=>.int i
 | _,_,.str x=>.str x
 | _,_,.lst r h z=>.lst r (by rw [ad (by rintro rfl; rw [e] at h; cases h)]; exact h) (iJ e z)
 | _,_,.tup r h z=>.tup r (by rw [ad (by rintro rfl; rw [e] at h; cases h)]; exact h) (iJ e z)
theorem iJ{R:Addr→Prop}{H:Hp}{d C dx:Addr}{fl fl':List (Str×V)}(e:H d=some (.ins C dx fl)):∀ {v:List V} {p:List PyData},RdA R H v p→RdA R (upd H d (.ins C dx fl')) v p
 | _,_,.nil=>.nil
 | _,_,.cons a b=>.cons (vh e a) (iJ e b)
end
section
variable{CD:Addr}{H0 H:Hp}{d dx:Addr}{fl:List (Str×V)}{k t f y:Addr}{tv fv sv:List V}{n:Nat}{ks:List Str}{ts:List ar}{fs:List aq}{l:List Tr}{m:Nat}
theorem DrX.same{H':Hp}(h:DrX CD H0 H d dx fl k t f y tv fv sv n ks ts fs l m)(s:Same H H'):DrX CD H0 H' d dx fl k t f y tv fv sv n ks ts fs l m:=
 {h with ob:=s _ _ h.ob,hk:=s _ _ h.hk,ht:=s _ _ h.ht,rt:=h.rt.same s,hf:=s _ _ h.hf,rf:=h.rf.same s,hy:=s _ _ h.hy,ry:=ap (Few.Same.tups s) h.ry}
theorem i8.same{H':Hp}(h:i8 CD H0 H d n ks ts fs l m)(s:Same H H'):i8 CD H0 H' d n ks ts fs l m:=let ⟨_,_,_,_,_,_,_,_,_,z⟩:=h; ⟨_,_,_,_,_,_,_,_,_,z.same s⟩
theorem DrX.dk(h:DrX CD H0 H d dx fl k t f y tv fv sv n ks ts fs l m):d≠k∧d≠t∧d≠f∧d≠y:=by
 have z:=h.ob
 refine⟨?_,?_,?_,?_⟩ <;> rintro rfl
 ·rw [h.hk] at z; cases z
 ·rw [h.ht] at z; cases z
 ·rw [h.hf] at z; cases z
 ·rw [h.hy] at z; cases z
theorem dX{H:Hp}{a:Addr}{xs ys:List V}(e:H a=some (.lst xs)):cP H (upd H a (.lst ys)):=fun b zs h=>by rw [ad (by rintro rfl; rw [e] at h; cases h)]; exact h
theorem iG{H0 H:Hp}{a:Addr}(o:HO)(s:Same H0 H)(n:H0 a=none):Same H0 (upd H a o):=fun b u h=>by rw [ad (ae h n)]; exact s b u h
theorem DrX.putK(h:DrX CD H0 H d dx fl k t f y tv fv sv n ks ts fs l m)(z:Str):DrX CD H0 (upd H k (.lst ((ks++[z]).map V.str))) d dx fl k t f y tv fv sv n (ks++[z]) ts fs l m:=
 {h with ob:=by rw [ad h.dk.1]; exact h.ob,hk:=aa,ht:=by rw [ad (Ne.symm h.e12)]; exact h.ht,rt:=h.rt.mono (fun _ z=>z) fun a o z e=>by rw [ad z.1]; exact e,hf:=by rw [ad (Ne.symm h.e13)]; exact h.hf,rf:=h.rf.mono (fun _ z=>z) fun a o z e=>by rw [ad z.1]; exact e,hy:=by rw [ad (Ne.symm h.e14)]; exact h.hy,ry:=ap (dX h.hk) h.ry}
theorem DrX.putT(h:DrX CD H0 H d dx fl k t f y tv fv sv n ks ts fs l m){v:V}{r:ar}(hv:RdV (fun a=>a≠k∧a≠t∧a≠f∧a≠y) H v (j3 r)):DrX CD H0 (upd H t (.lst (tv++[v]))) d dx fl k t f y (tv++[v]) fv sv n ks (ts++[r]) fs l m:=
 {h with ob:=by rw [ad h.dk.2.1]; exact h.ob,hk:=by rw [ad h.e12]; exact h.hk,ht:=aa,rt:=by rw [List.map_append]; exact(h.rt.mono (fun _ z=>z) fun a o z e=>by rw [ad z.2.1]; exact e).snoc (hv.mono (fun _ z=>z) fun a o z e=>by rw [ad z.2.1]; exact e),hf:=by rw [ad (Ne.symm h.e23)]; exact h.hf,rf:=h.rf.mono (fun _ z=>z) fun a o z e=>by rw [ad z.2.1]; exact e,hy:=by rw [ad (Ne.symm h.e24)]; exact h.hy,ry:=ap (dX h.ht) h.ry}
theorem DrX.putF(h:DrX CD H0 H d dx fl k t f y tv fv sv n ks ts fs l m){v:V}{r:aq}(hv:RdV (fun a=>a≠k∧a≠t∧a≠f∧a≠y) H v (jh r)):DrX CD H0 (upd H f (.lst (fv++[v]))) d dx fl k t f y tv (fv++[v]) sv n ks ts (fs++[r]) l m:=
 {h with ob:=by rw [ad h.dk.2.2.1]; exact h.ob,hk:=by rw [ad h.e13]; exact h.hk,ht:=by rw [ad h.e23]; exact h.ht,rt:=h.rt.mono (fun _ z=>z) fun a o z e=>by rw [ad z.2.2.1]; exact e,hf:=aa,rf:=by rw [List.map_append]; exact(h.rf.mono (fun _ z=>z) fun a o z e=>by rw [ad z.2.2.1]; exact e).snoc (hv.mono (fun _ z=>z) fun a o z e=>by rw [ad z.2.2.1]; exact e),hy:=by rw [ad (Ne.symm h.e34)]; exact h.hy,ry:=ap (dX h.hf) h.ry}
theorem DrX.putS(h:DrX CD H0 H d dx fl k t f y tv fv sv n ks ts fs l m){v:V}{r:Tr}(hv:Tup H v r):DrX CD H0 (upd H y (.lst (sv++[v]))) d dx fl k t f y tv fv (sv++[v]) n ks ts fs (l++[r]) m:=
 {h with ob:=by rw [ad h.dk.2.2.2]; exact h.ob,hk:=by rw [ad h.e14]; exact h.hk,ht:=by rw [ad h.e24]; exact h.ht,rt:=h.rt.mono (fun _ z=>z) fun a o z e=>by rw [ad z.2.2.2]; exact e,hf:=by rw [ad h.e34]; exact h.hf,rf:=h.rf.mono (fun _ z=>z) fun a o z e=>by rw [ad z.2.2.2]; exact e,hy:=aa,ry:=aQ.snoc (ap (dX h.hy) h.ry) (aX (dX h.hy) hv)}
theorem DrX.putN(h:DrX CD H0 H d dx fl k t f y tv fv sv n ks ts fs l m)(n':Nat):DrX CD H0 (upd H d (.ins CD dx (L2.putF "latest_sort" (.int n') fl))) d dx (L2.putF "latest_sort" (.int n') fl) k t f y tv fv sv n' ks ts fs l (m+1):=
 have T:cP H (upd H d (.ins CD dx (L2.putF "latest_sort" (.int n') fl))):=fun b zs e=>by rw [ad (by rintro rfl; rw [h.ob] at e; cases e)]; exact e
 have R:∀ a o,H a=some o→(∃ xs,o=.lst xs)∨(∃ xs,o=.tup xs)→upd H d (.ins CD dx (L2.putF "latest_sort" (.int n') fl)) a=some o:=fun a o e z=>by
  rw [ad (by rintro rfl; rw [h.ob] at e; cases e; rcases z with ⟨_,z⟩ | ⟨_,z⟩ <;> cases z)]; exact e
 {h with
  ob:=aa
  ln:=Nat.le_trans (ay _ _ _) (Nat.succ_le_succ h.ln)
  a1:=by rw [ah,if_pos rfl]
  a2:=by rw [ah,if_neg zY]; exact h.a2
  a3:=by rw [ah,if_neg zX]; exact h.a3
  a4:=by rw [ah,if_neg zW]; exact h.a4
  a5:=by rw [ah,if_neg zV]; exact h.a5
  hk:=R _ _ h.hk (.inl ⟨_,rfl⟩),ht:=R _ _ h.ht (.inl ⟨_,rfl⟩),rt:=iJ h.ob h.rt,hf:=R _ _ h.hf (.inl ⟨_,rfl⟩),rf:=iJ h.ob h.rf,hy:=R _ _ h.hy (.inl ⟨_,rfl⟩),ry:=ap T h.ry}
end
theorem A0(a:Str)(l:List Str):gl ((a::l).map V.str) (some 1) none=l.map V.str:=by
 unfold gl
 rw [HT.sIx_none]
 have e:HT.sIx ((a::l).map V.str).length 0 (some 1)=1:=by
  show min (1:Int).toNat ((a::l).map V.str).length=1
  rw [List.length_map,List.length_cons]
  simp
 rw [e]
 show ((l.map V.str)).take _=_
 rw [List.take_of_length_le]
 rw [List.length_map,List.length_map,List.length_cons]
 omega
theorem AZ(a z:Str)(l:List Str):gl ((a::(l++[z])).map V.str) (some 1) (some (-1))=l.map V.str:=by
 unfold gl
 have n:((a::(l++[z])).map V.str).length=l.length+2:=by simp
 rw [n]
 have e:HT.sIx (l.length+2) 0 (some 1)=1:=by
  show min (1:Int).toNat (l.length+2)=1
  simp
 have e2:HT.sIx (l.length+2) (l.length+2) (some (-1))=l.length+1:=by
  have : HT.sIx (l.length+2) (l.length+2) (some (-1))=if (-1:Int)<0 then ((-1:Int)+((l.length+2:Nat):Int)).toNat else min (-1:Int).toNat (l.length+2):=rfl
  rw [this,if_pos (by decide)]
  omega
 rw [e,e2]
 show ((l++[z]).map V.str).take _=_
 rw [List.map_append,List.take_left' (by rw [List.length_map]; omega)]
theorem zK(a z:Str)(l:List Str):atI ((a::(l++[z])).map V.str) (-1)=some (.str z):=by
 have n:((a::(l++[z])).map V.str).length=l.length+2:=by simp
 have e:ixN (l.length+2) (-1)=some (l.length+1):=by
  unfold ixN
  rw [if_neg (by decide)]
  simp
  omega
 unfold atI
 rw [n,e]
 simp
theorem uG(a:Str)(l:List Str):atI ((a::l).map V.str) 0=some (.str a):=bL (Int.le_refl _) rfl
section
abbrev cz:Stmt:=cF (top 42) 0
theorem zc4:ak ["self"] ["self"] (af cz):=by walk_at "F"
inductive spDrInitI(CD:Addr)(vs:List V)(H:Hp)(Q:VK):Prop where
 | mk:∀ (d dx:Addr),vs=[.ref d]→H d=some (.ins CD dx [])→(∀ H',(∀ H0:Hp,(∀ b o,H0 b=some o→b≠d∧H b=some o)→i8 CD H0 H' d 0 [] [] [] [] 5∧Same H0 H')→Q .non H')→spDrInitI CD vs H Q
def lr(CD:Addr):Sp:=fun vs H Q _=>spDrInitI CD vs H Q
theorem qo{f CD:Addr}{fd:FuncData}(F:Fun K "__init__" "Draft.__init__" cz f fd)(Z:Bl mg)(TD:ClD K CD):aZ P w K mg base CX0 1 f fd ["self"] (lr CD):=by
 have SC:=zc4
 refine F.ok zc4 (fun vs H Q E h=>?_) (fun cdv A outer s H vs Q E hr h=>?_)
 ·obtain⟨d,dx,rfl,_⟩:=h
  rfl
 ·obtain⟨d,dx,rfl,hd,q⟩:=h
  refine'⟨_,?derivation,?_⟩
  case derivation=>(walk_at "S2")
  refine⟨_,rfl,d,CD,dx,_,rfl,hd,TD.cl,TD.n1,by decide,?_⟩
  have step:∀ {G:Hp} {a:Addr} {fl:List (Str×V)} (z:Str),(∀ b o,b≠d→H b=some o→G b=some o)→G d=some (.ins CD dx fl)→G a=none→a≠d∧H a=none∧(∀ b o,b≠d→G b=some o→upd (upd G a (.lst [])) d (.ins CD dx (L2.putF z (.ref a) fl)) b=some o)∧upd (upd G a (.lst [])) d (.ins CD dx (L2.putF z (.ref a) fl)) a=some (.lst []):=fun {G a fl} z kp e n=>by
   have nd:a≠d:=Ne.symm (ae e n)
   refine⟨nd,?_,fun b o nb h=>by rw [ad nb,ad (ae h n)]; exact h,by rw [ad nd]; exact aa⟩
   cases h:H a with
   | none=>rfl
   | some o=>rw [kp a o nd h] at n; cases n
  have k1:∀ b o,b≠d→H b=some o→upd H d (.ins CD dx (L2.putF "latest_sort" (.int 0) [])) b=some o:=fun b o nb h=>by rw [ad nb]; exact h
  have d1:upd H d (.ins CD dx (L2.putF "latest_sort" (.int 0) [])) d=some (.ins CD dx (L2.putF "latest_sort" (.int 0) [])):=aa
  have l1:(L2.putF "latest_sort" (V.int 0) []).length≤1:=ay _ _ _
  generalize upd H d (.ins CD dx (L2.putF "latest_sort" (.int 0) []))=G1 at k1 d1
  refine⟨Nat.zero_le _,fun k hk=>⟨_,rfl,d,CD,dx,_,rfl,by rw [ad (ae d1 hk)]; exact d1,TD.cl,TD.n2,Nat.lt_of_le_of_lt l1 (by decide),?_⟩⟩
  obtain⟨nk,fk,kk,ek⟩:=step "read_kinds" k1 d1 hk
  have l2:=Nat.le_trans (ay "read_kinds" (.ref k) (L2.putF "latest_sort" (V.int 0) [])) (Nat.succ_le_succ l1)
  have d2:upd (upd G1 k (.lst [])) d (.ins CD dx (L2.putF "read_kinds" (.ref k) (L2.putF "latest_sort" (.int 0) []))) d=some (.ins CD dx (L2.putF "read_kinds" (.ref k) (L2.putF "latest_sort" (.int 0) []))):=aa
  have k2:∀ b o,b≠d→H b=some o→upd (upd G1 k (.lst [])) d (.ins CD dx (L2.putF "read_kinds" (.ref k) (L2.putF "latest_sort" (.int 0) []))) b=some o:=fun b o nb h=>kk b o nb (k1 b o nb h)
  generalize upd (upd G1 k (.lst [])) d (.ins CD dx (L2.putF "read_kinds" (.ref k) (L2.putF "latest_sort" (.int 0) [])))=G2 at kk ek d2 k2
  refine⟨Nat.zero_le _,fun t ht=>⟨_,rfl,d,CD,dx,_,rfl,by rw [ad (ae d2 ht)]; exact d2,TD.cl,TD.n3,Nat.lt_of_le_of_lt l2 (by decide),?_⟩⟩
  obtain⟨nt,ft,kt,et⟩:=step "read_ties" k2 d2 ht
  generalize hf2:L2.putF "read_kinds" (V.ref k) (L2.putF "latest_sort" (.int 0) [])=fl2 at *
  have l3:=Nat.le_trans (ay "read_ties" (.ref t) fl2) (Nat.succ_le_succ l2)
  have d3:upd (upd G2 t (.lst [])) d (.ins CD dx (L2.putF "read_ties" (.ref t) fl2)) d=some (.ins CD dx (L2.putF "read_ties" (.ref t) fl2)):=aa
  have k3:∀ b o,b≠d→H b=some o→upd (upd G2 t (.lst [])) d (.ins CD dx (L2.putF "read_ties" (.ref t) fl2)) b=some o:=fun b o nb h=>kt b o nb (k2 b o nb h)
  have ek3:=kt k _ nk ek
  have nkt:k≠t:=ae ek ht
  generalize upd (upd G2 t (.lst [])) d (.ins CD dx (L2.putF "read_ties" (.ref t) fl2))=G3 at kt et d3 k3 ek3
  refine⟨Nat.zero_le _,fun f hf=>⟨_,rfl,d,CD,dx,_,rfl,by rw [ad (ae d3 hf)]; exact d3,TD.cl,TD.n4,Nat.lt_of_le_of_lt l3 (by decide),?_⟩⟩
  obtain⟨nf,ff,kf,ef⟩:=step "read_functions" k3 d3 hf
  generalize hf3:L2.putF "read_ties" (V.ref t) fl2=fl3 at *
  have l4:=Nat.le_trans (ay "read_functions" (.ref f) fl3) (Nat.succ_le_succ l3)
  have d4:upd (upd G3 f (.lst [])) d (.ins CD dx (L2.putF "read_functions" (.ref f) fl3)) d=some (.ins CD dx (L2.putF "read_functions" (.ref f) fl3)):=aa
  have k4:∀ b o,b≠d→H b=some o→upd (upd G3 f (.lst [])) d (.ins CD dx (L2.putF "read_functions" (.ref f) fl3)) b=some o:=fun b o nb h=>kf b o nb (k3 b o nb h)
  have ek4:=kf k _ nk ek3
  have et4:=kf t _ nt et
  have nkf:k≠f:=ae ek3 hf
  have ntf:t≠f:=ae et hf
  generalize upd (upd G3 f (.lst [])) d (.ins CD dx (L2.putF "read_functions" (.ref f) fl3))=G4 at kf ef d4 k4 ek4 et4
  refine⟨Nat.zero_le _,fun y hy=>⟨_,rfl,d,CD,dx,_,rfl,by rw [ad (ae d4 hy)]; exact d4,TD.cl,TD.n5,Nat.lt_of_le_of_lt l4 (by decide),?_⟩⟩
  obtain⟨ny,fy,ky,ey⟩:=step "read_sayings" k4 d4 hy
  generalize hf4:L2.putF "read_functions" (V.ref f) fl3=fl4 at *
  have l5:=Nat.le_trans (ay "read_sayings" (.ref y) fl4) (Nat.succ_le_succ l4)
  refine q _ fun H0 h0=>⟨⟨dx,L2.putF "read_sayings" (.ref y) fl4,k,t,f,y,[],[],[],?_⟩,fun b o e=>ky b o (h0 b o e).1 (k4 b o (h0 b o e).1 (h0 b o e).2)⟩
  have no:∀ a,H a=none→H0 a=none:=fun a n=>by
   cases e:H0 a with
   | none=>rfl
   | some o=>rw [(h0 a o e).2] at n; cases n
  exact {ob:=aa,ln:=l5,a1:=by rw [ah,if_neg (Ne.symm zV),← hf4,ah,if_neg (Ne.symm zW),← hf3,ah,if_neg (Ne.symm zX),← hf2,ah,if_neg (Ne.symm zY),ah,if_pos rfl]; rfl,a2:=by rw [ah,if_neg (Ne.symm AW),← hf4,ah,if_neg (Ne.symm AX),← hf3,ah,if_neg (Ne.symm AY),← hf2,ah,if_pos rfl],a3:=by rw [ah,if_neg (Ne.symm AU),← hf4,ah,if_neg (Ne.symm AV),← hf3,ah,if_pos rfl],a4:=by rw [ah,if_neg (Ne.symm AT),← hf4,ah,if_pos rfl],a5:=by rw [ah,if_pos rfl],f1:=by {cases e:H0 d with | none=>rfl | some o=>exact absurd rfl (h0 d o e).1},f2:=no _ fk,f3:=no _ ft,f4:=no _ ff,f5:=no _ fy,e12:=nkt,e13:=nkf,e14:=ae ek4 hy,e23:=ntf,e24:=ae et4 hy,e34:=ae ef hy,hk:=ky _ _ nk ek4,ht:=ky _ _ nt et4,rt:=.nil,hf:=ky _ _ nf ef,rf:=.nil,hy:=ey,ry:=.nil}
abbrev cx:Stmt:=top 47
theorem zc5:ak ["draft"] ["draft"] (af cx):=by walk_at "F"
inductive spDSignsI(C:Addr)(CD:Addr)(vs:List V)(H:Hp)(Q:VK):Prop where
 | mk:∀ (d n m:Nat) (H0:Hp) (ks:List Str) (ts:List ar) (fs:List aq) (l:List Tr),vs=[.ref d]→i8 CD H0 H d n ks ts fs l m→au ks ts fs→(∀ g H',aH C H' g ks ts fs→Same H H'→Q (.ref g) H')→spDSignsI C CD vs H Q
def iF(C CD:Addr):Sp:=fun vs H Q _=>spDSignsI C CD vs H Q
theorem qm{C CD fI:Addr}{fdI:FuncData}(F:am K mg "drafted_signs" cx ["draft"])(Z:Bl mg)(TD:ClD K CD)
  (M_Signs:Mk K C fI) (G_Signs:aZ P w K mg base CX0 5 fI fdI ["self","kinds","ties","functions"] (ni C)) (m_Signs:mg "Signs"=some (.ref C)) (b_Signs:aU K fdI ["self","kinds","ties","functions"] []):Def P w K mg base "drafted_signs" 7 ["draft"] (iF C CD):=by
 have SC:=zc5
 refine F.mk' (k:=6) zc5 (fun vs H Q E h=>?_) (fun f cdv A outer s H vs Q E hr h=>?_)
 ·obtain⟨d,n,m,H0,ks,ts,fs,l,rfl,_⟩:=h
  rfl
 ·obtain⟨d,n,m,H0,ks,ts,fs,l,rfl,⟨dx,fl,k,t,f,y,tv,fv,sv,D⟩,ok,q⟩:=h
  refine'⟨_,?derivation,?_⟩
  case derivation=>(walk_at "S1")
  refine⟨_,rfl,d,CD,dx,_,_,rfl,D.ob,TD.cl,TD.n2,D.a2,_,rfl,d,CD,dx,_,_,rfl,D.ob,TD.cl,TD.n3,D.a3,_,rfl,d,CD,dx,_,_,rfl,D.ob,TD.cl,TD.n4,D.a4,fun x dx' hx hdx nd=>?_⟩
  have s6:=dw (CB:=C) hx hdx nd
  obtain⟨ab,rfl,sab⟩:=gs (D.rt.same s6)
  obtain⟨cd,rfl,scd⟩:=gP (D.rf.same s6)
  refine⟨x,dx',k,t,f,ab,cd,ks,ts,fs,rfl,aa,.inl (s6 _ _ D.hk),.inl (s6 _ _ D.ht),sab,.inl (s6 _ _ D.hf),scd,ok,fun H7 g7 x7=>⟨rfl,q x H7 g7 (dy hx s6 x7)⟩⟩
abbrev d8:Stmt:=top 46
theorem zc6:ak ["draft","word","things"] ["draft","word","things"] (af d8):=by walk_at "F"
inductive spRSignI(CD:Addr)(vs:List V)(H:Hp)(Q:VK):Prop where
 | mk:∀ (d th n m:Nat) (H0:Hp) (wd:Str) (ws:List Str) (ks ks':List Str) (ts ts':List ar) (fs fs':List aq) (l:List Tr),vs=[.ref d,.str wd,.ref th]→Same H0 H→i8 CD H0 H d n ks ts fs l m→H th=some (.lst (ws.map V.str))→ws.length≤5→ks.length≤10→ts.length≤10→fs.length≤10→(((∃ z,wd="kind"∧ws=[z]∧ks'=ks++[z]∧ts'=ts∧fs'=fs)∨(∃ r:ar,wd="tie"∧ws=r.nm::r.ps∧ks'=ks∧ts'=ts++[r]∧fs'=fs)∨(∃ r:aq,wd="function"∧ws=r.nm::(r.ps++[r.kd])∧ks'=ks∧ts'=ts∧fs'=fs++[r])))→(∀ H',Same H0 H'→i8 CD H0 H' d n ks' ts' fs' l m→Q .non H')→spRSignI CD vs H Q
def oV(CD:Addr):Sp:=fun vs H Q _=>spRSignI CD vs H Q
theorem tW{CD:Addr}(F:am K mg "read_sign" d8 ["draft","word","things"])(Z:Bl mg)(TD:ClD K CD):Def P w K mg base "read_sign" 1 ["draft","word","things"] (oV CD):=by
 have SC:=zc6
 refine F.mk' (k:=0) zc6 (fun vs H Q E h=>?_) (fun f cdv A outer s H vs Q E hr h=>?_)
 ·obtain⟨d,th,n,m,H0,wd,ws,ks,ks',ts,ts',fs,fs',l,rfl,_⟩:=h
  rfl
 ·obtain⟨d,th,n,m,H0,wd,ws,ks,ks',ts,ts',fs,fs',l,rfl,s0,⟨dx,fl,k,t,f,y,tv,fv,sv,D⟩,ht,hw,lk,lt,lf,hc,q⟩:=h
  refine'⟨_,?derivation,?_⟩
  case derivation=>(have:=aj 33 233 27 33; have:=aj 33 231 30 36; have:=aj 33 232 32 38; have:=aj 33 234 32 38; have:=aj 33 234 43 49; have:=aj 33 235 36 42; have:=aj 33 236 37 43; have:=aj 33 236 48 54; have:=aj 33 236 62 68; walk_at "S1")
  have dK:=D.dk
  have nth_:∀ a,a=k∨a=t∨a=f∨a=y→True:=fun _ _=>trivial
  have put:∀ {G:Hp} (a:Addr) (o:HO),Same H0 G→H0 a=none→Same H0 (upd G a o):=fun a o s n=>iG o s n
  rcases hc with ⟨z,rfl,rfl,rfl,rfl,rfl⟩ | ⟨r,rfl,rfl,rfl,rfl,rfl⟩ | ⟨r,rfl,rfl,rfl,rfl,rfl⟩
  ·refine⟨_,rfl,rfl,_,rfl,ifT (by decide +kernel) ⟨_,rfl,th,_,rfl,.inl (SqL.of ht),rfl,_,rfl,ifT (by simp) ?_⟩⟩
   refine⟨_,rfl,d,CD,dx,_,_,rfl,D.ob,TD.cl,TD.n2,D.a2,.inl ⟨rfl,_,SqL.of D.hk⟩,_,rfl,th,_,0,.str z,rfl,rfl,SqL.of ht,rfl,k,_,_,rfl,rfl,D.hk,Nat.lt_of_le_of_lt (show (ks.map V.str).length≤10 by rw [List.length_map]; omega) (by decide),?_⟩
   refine q _ (put k _ s0 D.f2) ⟨dx,fl,k,t,f,y,tv,fv,sv,?_⟩
   have:=D.putK z
   rw [List.map_append] at this
   exact this
  ·refine⟨_,rfl,rfl,_,rfl,ifF (by decide +kernel) (ifF (by simp) ⟨_,rfl,rfl,_,rfl,ifT (by decide +kernel) ⟨_,rfl,true,.inl ⟨_,SqL.of ht,rfl⟩,ifT rfl ?_⟩⟩)⟩
   refine⟨_,rfl,d,CD,dx,_,_,rfl,D.ob,TD.cl,TD.n3,D.a3,.inl ⟨rfl,_,SqL.of D.ht⟩,_,rfl,th,_,0,.str r.nm,rfl,rfl,SqL.of ht,uG _ _,_,rfl,1,rfl,th,_,rfl,SqL.of ht,fun p hp=>⟨(by show 2≤sizeLine; decide),fun tp htp=>?_⟩⟩
   rw [A0] at htp ⊢
   have s1:=(ac hp (.lst (r.ps.map V.str))).trans (ac htp (.tup [.str r.nm,.ref p]))
   have D':=D.same s1
   have hpp:upd (upd H p (.lst (r.ps.map V.str))) tp (.tup [.str r.nm,.ref p]) p=some (.lst (r.ps.map V.str)):=(ac htp _) _ _ aa
   have nn:∀ {a b:Addr} {o:HO},H a=some o→H b=none→b≠a:=fun e n=>Ne.symm (ae e n)
   have ntp:∀ {a:Addr} {o:HO},H a=some o→tp≠a:=fun {a o} e=>Ne.symm (ae ((ac hp _) _ _ e) htp)
   refine⟨t,tv,_,rfl,rfl,D'.ht,Nat.lt_of_le_of_lt (show tv.length≤10 by rw [RdA.length D.rt,List.length_map]; exact lt) (by decide),?_⟩
   exact q _ (put t _ (s0.trans s1) D.f3) ⟨dx,fl,k,t,f,y,_,fv,sv,D'.putT (r:=r) (.tup ⟨ntp D.hk,ntp D.ht,ntp D.hf,ntp D.hy⟩ aa (.cons (.str _) (.cons (.lst ⟨nn D.hk hp,nn D.ht hp,nn D.hf hp,nn D.hy hp⟩ hpp (RdA.strs _)) .nil)))⟩
  ·have n1:((r.nm::(r.ps++[r.kd])).map V.str).length=r.ps.length+2:=by simp
   refine⟨_,rfl,rfl,_,rfl,ifF (by decide +kernel) (ifF (by simp) ⟨_,rfl,rfl,_,rfl,ifF (by decide +kernel) (ifF (by simp) ⟨_,rfl,rfl,_,rfl,ifT (by decide +kernel) ⟨_,rfl,th,_,rfl,.inl (SqL.of ht),_,_,rfl,rfl,_,rfl,ifT (by rw [n1]; simp; omega) ?_⟩⟩)⟩)⟩
   refine⟨_,rfl,d,CD,dx,_,_,rfl,D.ob,TD.cl,TD.n4,D.a4,.inl ⟨rfl,_,SqL.of D.hf⟩,_,rfl,th,_,0,.str r.nm,rfl,rfl,SqL.of ht,uG _ _,_,rfl,1,rfl,?_⟩
   refine⟨1,rfl,-1,rfl,th,_,rfl,SqL.of ht,fun p hp=>?_⟩
   rw [AZ]
   have sp:=ac hp (.lst (r.ps.map V.str))
   refine⟨_,rfl,1,rfl,th,_,-1,.str r.kd,rfl,rfl,SqL.of (sp _ _ ht),zK _ _ _,(by show 3≤sizeLine; decide),fun tp htp=>?_⟩
   have s1:=sp.trans (ac htp (.tup [.str r.nm,.ref p,.str r.kd]))
   have D':=D.same s1
   have hpp:upd (upd H p (.lst (r.ps.map V.str))) tp (.tup [.str r.nm,.ref p,.str r.kd]) p=some (.lst (r.ps.map V.str)):=(ac htp _) _ _ aa
   have nn:∀ {a b:Addr} {o:HO},H a=some o→H b=none→b≠a:=fun e n=>Ne.symm (ae e n)
   have ntp:∀ {a:Addr} {o:HO},H a=some o→tp≠a:=fun {a o} e=>Ne.symm (ae (sp _ _ e) htp)
   refine⟨f,fv,_,rfl,rfl,D'.hf,Nat.lt_of_le_of_lt (show fv.length≤10 by rw [RdA.length D.rf,List.length_map]; exact lf) (by decide),?_⟩
   exact q _ (put f _ (s0.trans s1) D.f4) ⟨dx,fl,k,t,f,y,tv,_,sv,D'.putF (r:=r) (.tup ⟨ntp D.hk,ntp D.ht,ntp D.hf,ntp D.hy⟩ aa (.cons (.str _) (.cons (.lst ⟨nn D.hk hp,nn D.ht hp,nn D.hf hp,nn D.hy hp⟩ hpp (RdA.strs _)) (.cons (.str _) .nil))))⟩
end
def sorts:List Str:=["kind","tie","function","say"]
inductive ox:Nat→List Str→List ar→List aq→List Tr→Str→Nat→List Str→List ar→List aq→List Tr→Prop where
 | kind {ks:List Str} {l:List Tr} (z:Str):aK z→ox 0 ks [] [] l (Str.join " " (gF z)) 0 (ks++[z]) [] [] l
 | tie {n:Nat} {ks:List Str} {ts:List ar} {l:List Tr} (r:ar):n≤1→aK r.nm→(∀ k∈r.ps,aK k)→r.ps.length≤2→ox n ks ts [] l (Str.join " " (lG r)) 1 ks (ts++[r]) [] l
 | func {n:Nat} {ks:List Str} {ts:List ar} {fs:List aq} {l:List Tr} (r:aq):n≤2→aK r.nm→(∀ k∈r.ps,aK k)→aK r.kd→r.ps.length≤2→ox n ks ts fs l (Str.join " " (kq r)) 2 ks ts (fs++[r]) l
 | say {n:Nat} {ks:List Str} {ts:List ar} {fs:List aq} {l:List Tr} (t:Tr):n≤3→b6 ks ts fs (fun _=>none) t→Fit 7 20000 t→l.length≤10→ox n ks ts fs l (Str.join " " (fu t)) 3 ks ts fs (l++[t])
theorem uw{ks:List Str}{ts:List ar}{fs:List aq}{S:Str→Option Str}{t:Tr}(h:b6 ks ts fs S t):∃ l,t=.node l:=by
 obtain⟨w,l,rfl,_⟩:=h.as
 exact⟨_,rfl⟩
theorem eM{z:Str}(h:aK z):32∉z.cps.toList:=fun c=>by have:=h.2.2 _ c; omega
theorem qE(a:Str){l:List Str}(h:l≠[]):Str.join " " (a::l)=a++" "++Str.join " " l:=by
 cases l with
 | nil=>exact absurd rfl h
 | cons b r=>rfl
theorem m7{n n':Nat}{ks ks':List Str}{ts ts':List ar}{fs fs':List aq}{l l':List Tr}{row:Str}(h:ox n ks ts fs l row n' ks' ts' fs' l'):∃ wd ws,row=Str.join " " (wd::ws)∧(∀ p∈wd::ws,32∉p.cps.toList)∧sorts[n']? = some wd∧n≤n'∧ws.length≤20001∧(ws.map (·.length)).sum+ws.length≤20001∧
  ((n'≠3∧ws.length≤5∧l'=l∧((∃ z,wd="kind"∧ws=[z]∧ks'=ks++[z]∧ts'=ts∧fs'=fs)∨(∃ r:ar,wd="tie"∧ws=r.nm::r.ps∧ks'=ks∧ts'=ts++[r]∧fs'=fs)∨(∃ r:aq,wd="function"∧ws=r.nm::(r.ps++[r.kd])∧ks'=ks∧ts'=ts∧fs'=fs++[r])))∨
   (∃ t,n'=3∧ks'=ks∧ts'=ts∧fs'=fs∧l'=l++[t]∧Str.join " " ws=wr t∧b6 ks ts fs (fun _=>none) t∧Fit 7 20000 t∧l.length≤10)):=by
 have wdf:∀ w∈sorts,32∉w.cps.toList:=by unfold sorts; decide +kernel
 have nl:∀ {z:Str},aK z→z.length≤12:=fun {z} h=>by rw [bJ]; exact h.2.1
 have lsum:∀ {ps:List Str},(∀ k∈ps,aK k)→ps.length≤2→(ps.map (·.length)).sum≤24:=fun {ps} h h2=>by
  match ps,h2 with
  | [],_=>exact Nat.zero_le _
  | [a],_=>
   have:=nl (h a (by simp))
   simp; omega
  | [a,b],_=>
   have:=nl (h a (by simp))
   have:=nl (h b (by simp))
   simp; omega
 cases h with
 | kind z hz=>
  have:=nl hz
  refine⟨"kind",[z],rfl,?_,rfl,Nat.le_refl _,by simp,by simp; omega,.inl ⟨by decide,by simp,rfl,.inl ⟨z,rfl,rfl,rfl,rfl,rfl⟩⟩⟩
  intro p hp
  rcases List.mem_cons.mp hp with rfl | hp
  ·exact wdf _ (by unfold sorts; simp)
  ·rw [List.mem_singleton.mp hp]; exact eM hz
 | tie r h1 h2 h3 h4=>
  have:=nl h2
  have:=lsum h3 h4
  refine⟨"tie",r.nm::r.ps,rfl,?_,rfl,h1,by simp; omega,by simp; omega,.inl ⟨by decide,by simp; omega,rfl,.inr (.inl ⟨r,rfl,rfl,rfl,rfl,rfl⟩)⟩⟩
  intro p hp
  rcases List.mem_cons.mp hp with rfl | hp
  ·exact wdf _ (by unfold sorts; simp)
  rcases List.mem_cons.mp hp with rfl | hp
  ·exact eM h2
  ·exact eM (h3 p hp)
 | func r h1 h2 h3 h4 h5=>
  have:=nl h2
  have:=nl h4
  have:=lsum h3 h5
  refine⟨"function",r.nm::(r.ps++[r.kd]),rfl,?_,rfl,h1,by simp; omega,by simp; omega,.inl ⟨by decide,by simp; omega,rfl,.inr (.inr ⟨r,rfl,rfl,rfl,rfl,rfl⟩)⟩⟩
  intro p hp
  rcases List.mem_cons.mp hp with rfl | hp
  ·exact wdf _ (by unfold sorts; simp)
  rcases List.mem_cons.mp hp with rfl | hp
  ·exact eM h2
  rcases List.mem_append.mp hp with hp | hp
  ·exact eM (h3 p hp)
  ·rw [List.mem_singleton.mp hp]; exact eM h4
 | say t h1 h2 h3 h4=>
  have wl:(wr t).length≤20000:=Nat.le_trans (jj _) h3.wt
  have js:=StrLaws.join_split (wr t) ⟨#[32]⟩
  have sm:=dB (Txt.split (wr t) ⟨#[32]⟩)
  have js':Str.join " " (Txt.split (wr t) ⟨#[32]⟩)=wr t:=js
  rw [js'] at sm
  have ne:Txt.split (wr t) ⟨#[32]⟩≠[]:=by
   intro z
   rw [z] at js'
   obtain⟨lt,rfl⟩:=uw h2
   have:=j1 lt
   rw [← js'] at this
   exact absurd this (by show ¬ (0=_); omega)
  refine⟨"say",Txt.split (wr t) ⟨#[32]⟩,?_,?_,rfl,h1,by omega,by omega,.inr ⟨t,rfl,rfl,rfl,rfl,rfl,js',h2,h3,h4⟩⟩
  ·rw [qE _ ne,js']
   rfl
  ·intro p hp
   rcases List.mem_cons.mp hp with rfl | hp
   ·exact wdf _ (by unfold sorts; simp)
   ·exact StrLaws.split_free _ 32 p hp
theorem lb:∀ l:List Str,(l.map fun x=>x.length+1).sum=(l.map (·.length)).sum+l.length
 | []=>rfl
 | a::r=>by
  rw [List.map_cons,List.map_cons,List.sum_cons,List.sum_cons,lb r,List.length_cons]
  omega
theorem sj{n:Nat}{wd:Str}(h:sorts[n]? = some wd):wd∈sorts∧sorts.idxOf wd=n∧wd.length≤8∧(wd="say"↔n=3):=by
 have hn:n<4:=(List.getElem?_eq_some_iff.mp h).1
 have : ∀ j,j<4→∀ w∈sorts[j]?,w∈sorts∧sorts.idxOf w=j∧w.length≤8∧(w="say"↔j=3):=by unfold sorts; decide +kernel
 exact this n hn wd h
section
abbrev fh:Stmt:=top 45
theorem zc7:ak ["draft","row","word","things","signs"] ["draft","row"] (af fh):=by walk_at "F"
inductive spRRowI(CD:Addr)(vs:List V)(H:Hp)(Q:VK):Prop where
 | mk:∀ (d n n' m:Nat) (H0:Hp) (row:Str) (ks ks':List Str) (ts ts':List ar) (fs fs':List aq) (l l':List Tr),vs=[.ref d,.str row]→Same H0 H→i8 CD H0 H d n ks ts fs l m→m≤900→ks.length≤10→ts.length≤10→fs.length≤10→ox n ks ts fs l row n' ks' ts' fs' l'→au ks' ts' fs'→(∀ H',Same H0 H'→i8 CD H0 H' d n' ks' ts' fs' l' (m+1)→Q .non H')→spRRowI CD vs H Q
def rW(CD:Addr):Sp:=fun vs H Q _=>spRRowI CD vs H Q
theorem vP{C CD sa:Addr}(F:am K mg "read_row" fh ["draft","row"])(Z:Bl mg)(TD:ClD K CD)(g_SORTS:mg "SORTS"=some (.ref sa))(hsa:∀ H,SqT K H sa (sorts.map V.str))(hta:∃ o,K.lookup sa=some o∧o.cls=.type "tuple"∧o.dict=none)(D_read_sign:Def P w K mg base "read_sign" 1 ["draft","word","things"] (oV CD))(D_drafted_signs:Def P w K mg base "drafted_signs" 7 ["draft"] (iF C CD))(D_read_saying:Def P w K mg base "read_saying" 31 ["signs","text"] (rV C)):Def P w K mg base "read_row" 32 ["draft","row"] (rW CD):=by
 have SC:=zc7
 have r_SORTS:az (.ref sa) (.ref sa):=rfl
 refine F.mk' (k:=31) zc7 (fun vs H Q E h=>?_) (fun f cdv A outer s H vs Q E hr h=>?_)
 ·obtain⟨d,n,n',m,H0,row,ks,ks',ts,ts',fs,fs',l,l',rfl,_⟩:=h
  rfl
 ·obtain⟨d,n,n',m,H0,row,ks,ks',ts,ts',fs,fs',l,l',rfl,s0,hD,hm,lk,lt,lf,hst,ok,q⟩:=h
  refine'⟨_,?derivation,?_⟩
  case derivation=>(have:=aj 34 224 24 41; have:=aj 34 222 28 45; have:=aj 31 229 53 69; walk_at "S2")
  obtain⟨wd,ws,rfl,free,hso,hnn,wl1,wl2,hc⟩:=m7 hst
  obtain⟨mem,ix,wl,say⟩:=sj hso
  have spl:Txt.split (Str.join " " (wd::ws)) " "=wd::ws:=fc 32 (by simp) free
  have jl:=gi (wd::ws)
  rw [lb,List.map_cons,List.sum_cons,List.length_cons] at jl
  obtain⟨dx,fl,k,t,f,y,tv,fv,sv,D⟩:=id hD
  refine⟨_,rfl,rfl,_,_,rfl,rfl,by decide,Nat.lt_of_le_of_lt (show _≤40020 by omega) (by decide),by rw [spl]; exact Nat.le_trans (show (wd::ws).length≤20002 by rw [List.length_cons]; omega) (by decide),?_⟩
  rw [spl]
  refine fun L hL=>⟨L,.str wd,ws.map V.str,rfl,.inl (SqL.of aa),fun th hth=>⟨_,_,rfl,_,_,rfl,rfl,?_⟩⟩
  have s1:=(ac hL (.lst ((wd::ws).map V.str))).trans (ac hth (.lst (ws.map V.str)))
  have eth:upd (upd H L (.lst ((wd::ws).map V.str))) th (.lst (ws.map V.str)) th=some (.lst (ws.map V.str)):=aa
  have D1:=D.same s1
  have s01:=s0.trans s1
  have hth0:H0 th=none:=by
   cases e:H0 th with
   | none=>rfl
   | some o=>rw [(ac hL _) _ _ (s0 _ _ e)] at hth; cases hth
  have nd:th≠d:=by rintro rfl; rw [D1.ob] at eth; cases eth
  generalize upd (upd H L (.lst ((wd::ws).map V.str))) th (.lst (ws.map V.str))=H1 at s1 eth D1 s01
  have e1:(if true=true then !inV (V.str wd) (sorts.map V.str) else inV (V.str wd) (sorts.map V.str))=false:=by rw [cu]; simp [mem]
  refine⟨_,rfl,sa,_,rfl,.inr (hsa _),rfl,cG _,_,rfl,ifF (by rw [e1]; simp) ?_⟩
  refine⟨.inr (.inl ⟨rfl,hta⟩),_,rfl,sa,sorts,wd,rfl,rfl,hsa _,mem,_,rfl,d,CD,dx,fl,_,rfl,D1.ob,TD.cl,TD.n1,D1.a1,_,_,rfl,rfl,_,rfl,ifF (by rw [ix]; simp; omega) ?_⟩
  refine⟨.inr (.inl ⟨rfl,hta⟩),_,rfl,sa,sorts,wd,rfl,rfl,hsa _,mem,_,rfl,d,CD,dx,fl,rfl,D1.ob,TD.cl,TD.n1,Nat.lt_of_le_of_lt (Nat.le_trans D1.ln hm) (by decide),?_⟩
  rw [ix]
  have D2:=D1.putN n'
  have s2:Same H0 (upd H1 d (.ins CD dx (L2.putF "latest_sort" (.int n') fl))):=iG _ s01 D.f1
  have eth2:upd H1 d (.ins CD dx (L2.putF "latest_sort" (.int n') fl)) th=some (.lst (ws.map V.str)):=by rw [ad nd]; exact eth
  generalize upd H1 d (.ins CD dx (L2.putF "latest_sort" (.int n') fl))=H2 at D2 s2 eth2
  have D2':i8 CD H0 H2 d n' ks ts fs l (m+1):=⟨_,_,_,_,_,_,_,_,_,D2⟩
  rcases hc with ⟨n3,w5,rfl,hc⟩ | ⟨tr,n3,rfl,rfl,rfl,rfl,jw,hsy,hfit,hll⟩
  ·have ns:¬ wd="say":=fun z=>n3 (say.mp z)
   refine⟨_,rfl,rfl,_,rfl,ifT (by simp [ns]) ⟨_,rfl,_,rfl,_,rfl,d,th,n',m+1,H0,wd,ws,ks,ks',ts,ts',fs,fs',l',rfl,s2,D2',eth2,w5,lk,lt,lf,hc,fun H3 s3 D3=>?_⟩⟩
   refine⟨_,rfl,d,n',m+1,H0,ks',ts',fs',l',rfl,D3,ok,fun g H4 g4 s4=>⟨_,rfl,rfl,_,rfl,ifF (by simp [ns]) (q H4 (s3.trans s4) (D3.same s4))⟩⟩
  ·have es:wd="say":=say.mpr n3
   refine⟨_,rfl,rfl,_,rfl,ifF (by simp [es]) ⟨_,rfl,d,n',m+1,H0,ks',ts',fs',l,rfl,D2',ok,fun g H4 g4 s4=>⟨_,rfl,rfl,_,rfl,ifT (by simp [es]) ?_⟩⟩⟩
   have D4:=D2.same s4
   have wl0:(wr tr).length≤20000:=Nat.le_trans (jj _) hfit.wt
   refine⟨_,rfl,d,CD,dx,_,_,rfl,D4.ob,TD.cl,TD.n5,D4.a5,.inl ⟨rfl,_,SqL.of D4.hy⟩,_,rfl,rfl,_,rfl," ",th,ws,rfl,rfl,SqL.of (s4 _ _ eth2),by decide,by omega,?_⟩
   rw [jw]
   refine⟨g,ks',ts',fs',tr,rfl,g4,ok,hsy,Nat.le_trans hfit.dp (by decide),by omega,fun u H5 tu s5=>?_⟩
   have D5:=D4.same s5
   refine⟨y,sv,_,rfl,rfl,D5.hy,Nat.lt_of_le_of_lt (show sv.length≤10 by rw [aQ.length D4.ry]; exact hll) (by decide),?_⟩
   exact q _ (iG _ ((s2.trans s4).trans s5) D.f5) ⟨_,_,_,_,_,_,_,_,_,D5.putS tu⟩
end
mutual
def qp:Tr→Prop
 | .leaf x=>10∉x.cps.toList
 | .node ts=>lX ts
def lX:List Tr→Prop
 | []=>True
 | t::ts=>qp t∧lX ts
end
theorem jH{z:Str}(h:aK z):qp (.leaf z):=fun c=>by have:=h.2.2 _ c; omega
theorem oE:∀ z∈[("=":Str),"not","and","or","all","some"],qp (.leaf z):=by
 have : ∀ z∈[("=":Str),"not","and","or","all","some"],10∉z.cps.toList:=by decide +kernel
 exact this
mutual
theorem rD{ks:List Str}{ts:List ar}{fs:List aq}(B:au ks ts fs){S:Str→Option Str}(hS:∀ x k,S x=some k→aK x):∀ {t:Tr} {k:Str},gr fs S t k→qp t
 | _,_,.var h=>jH (hS _ _ h)
 | _,_,.app hf r=>⟨jH (B.fn _ hf).1.1,m5 B hS r⟩
theorem m5{ks:List Str}{ts:List ar}{fs:List aq}(B:au ks ts fs){S:Str→Option Str}(hS:∀ x k,S x=some k→aK x):∀ {t:List Tr} {k:List Str},bZ fs S t k→lX t
 | _,_,.nil=>trivial
 | _,_,.cons h r=>⟨rD B hS h,m5 B hS r⟩
end
mutual
theorem oO{ks:List Str}{ts:List ar}{fs:List aq}(B:au ks ts fs):∀ {S:Str→Option Str} {t:Tr},(∀ x k,S x=some k→aK x)→b6 ks ts fs S t→qp t
 | _,_,hS,.eq a b=>⟨oE _ (by simp),rD B hS a,rD B hS b,trivial⟩
 | _,_,hS,.not a=>⟨oE _ (by simp),oO B hS a,trivial⟩
 | _,_,hS,.conn hw _ a=>⟨oE _ (by rcases hw with rfl | rfl <;> simp),rM B hS a⟩
 | _,_,hS,.bind hw hx hk a=>⟨oE _ (by rcases hw with rfl | rfl <;> simp),jH hx,jH (B.kn2 _ hk),oO B (lx hS hx) a,trivial⟩
 | _,_,hS,.tie ht a=>⟨jH (B.tn _ ht).1.1,m5 B hS a⟩
theorem rM{ks:List Str}{ts:List ar}{fs:List aq}(B:au ks ts fs):∀ {S:Str→Option Str} {t:List Tr},(∀ x k,S x=some k→aK x)→cS ks ts fs S t→lX t
 | _,_,_,.nil=>trivial
 | _,_,hS,.cons a r=>⟨oO B hS a,rM B hS r⟩
end
theorem iT{c:Nat}:∀ {l:List Str},c∈(Str.join " " l).cps.toList→c=32∨∃ x∈l,c∈x.cps.toList
 | [],h=>by
  have : (Str.join " " ([]:List Str)).cps.toList=[]:=rfl
  rw [this] at h; cases h
 | [a],h=>.inr ⟨a,by simp,h⟩
 | a::b::r,h=>by
  have h:c∈(Str.join ⟨#[32]⟩ (a::b::r)).cps.toList:=h
  rw [bz 32 a b r] at h
  rcases List.mem_append.mp h with h | h
  ·exact .inr ⟨a,by simp,h⟩
  rcases List.mem_cons.mp h with h | h
  ·exact .inl h
  ·rcases iT (l:=b::r) h with h | ⟨x,hx,h⟩
   ·exact .inl h
   ·exact .inr ⟨x,List.mem_cons_of_mem _ hx,h⟩
mutual
theorem wY:∀ t:Tr,qp t→10∉(wr t).cps.toList
 | .leaf x,h=>by rw [wr]; exact h
 | .node ts,h=>by
  intro c
  rw [ie,aG,aG] at c
  rcases List.mem_append.mp c with c | c
  ·rcases List.mem_append.mp c with c | c
   ·have : ("(":Str).cps.toList=[40]:=rfl
    rw [this] at c
    simp at c
   ·rcases iT c with c | ⟨x,hx,c⟩
    ·simp at c
    ·obtain⟨t,ht,rfl⟩:=List.mem_map.mp hx
     exact rh ts h t ht c
  ·have : (")":Str).cps.toList=[41]:=rfl
   rw [this] at c
   simp at c
theorem rh:∀ ts:List Tr,lX ts→∀ t∈ts,10∉(wr t).cps.toList
 | [],_,_,h=>by cases h
 | x::r,h,t,ht=>by
  rcases List.mem_cons.mp ht with e | ht
  ·rw [e]; exact wY x h.1
  ·exact rh r h.2 t ht
end
def aL(rs:List (List Str)):List Str:=rs.map (Str.join " ")
theorem jr:∀ rs:List (List Str),bu rs=Str.join ⟨#[10]⟩ (aL rs++[("":Str)])
 | []=>rfl
 | [a]=>by
  show Str.join " " a++"\n"=Str.join " " a++⟨#[10]⟩++""
  apply cI
  rw [aG,aG,aG]
  show _=_++[]
  rw [List.append_nil]
  rfl
 | a::b::r=>by
  have ih:=jr (b::r)
  have e1:bu (a::b::r)=line a++""++bu (b::r):=rfl
  have e2:Str.join ⟨#[10]⟩ (aL (a::b::r)++[("":Str)])=Str.join " " a++⟨#[10]⟩++Str.join ⟨#[10]⟩ (aL (b::r)++[("":Str)]):=rfl
  rw [e1,e2,ih]
  apply cI
  unfold line
  simp only [aG]
  show _++[]++_=_
  rw [List.append_nil]
  rfl
theorem vd{ks:List Str}{ts:List ar}{fs:List aq}{l:List Tr}(B:au ks ts fs)(hs:dF ks ts fs l):∀ p∈aL (aJ ks ts fs l),10∉p.cps.toList:=by
 have nn:∀ {z:Str},aK z→10∉z.cps.toList:=fun h=>jH h
 have wds:∀ z∈sorts,10∉z.cps.toList:=by unfold sorts; decide +kernel
 have row:∀ {ws:List Str},(∀ z∈ws,10∉z.cps.toList)→10∉(Str.join " " ws).cps.toList:=fun h c=>by
  rcases iT c with c | ⟨x,hx,c⟩
  ·simp at c
  ·exact h x hx c
 intro p hp
 obtain⟨ws,hws,rfl⟩:=List.mem_map.mp hp
 refine row fun z hz=>?_
 unfold aJ at hws
 rcases List.mem_append.mp hws with hws | hws
 ·rcases List.mem_append.mp hws with hws | hws
  ·rcases List.mem_append.mp hws with hws | hws
   ·obtain⟨k,hk,rfl⟩:=List.mem_map.mp hws
    rcases List.mem_cons.mp hz with rfl | hz
    ·exact wds _ (by unfold sorts; simp)
    ·rw [List.mem_singleton.mp hz]; exact nn (B.kn2 k hk)
   ·obtain⟨r,hr,rfl⟩:=List.mem_map.mp hws
    rcases List.mem_cons.mp hz with rfl | hz
    ·exact wds _ (by unfold sorts; simp)
    rcases List.mem_cons.mp hz with rfl | hz
    ·exact nn (B.tn r hr).1.1
    ·exact nn (B.kn2 z ((B.tn r hr).2.2 z hz))
  ·obtain⟨r,hr,rfl⟩:=List.mem_map.mp hws
   rcases List.mem_cons.mp hz with rfl | hz
   ·exact wds _ (by unfold sorts; simp)
   rcases List.mem_cons.mp hz with rfl | hz
   ·exact nn (B.fn r hr).1.1
   rcases List.mem_append.mp hz with hz | hz
   ·exact nn (B.kn2 z ((B.fn r hr).2.2.1 z hz))
   ·rw [List.mem_singleton.mp hz]; exact nn (B.kn2 _ (B.fn r hr).2.2.2)
 ·obtain⟨t,ht,rfl⟩:=List.mem_map.mp hws
  rcases List.mem_cons.mp hz with rfl | hz
  ·exact wds _ (by unfold sorts; simp)
  ·rw [List.mem_singleton.mp hz]; exact wY t (oO B (fun _ _ z=>by cases z) (hs t ht).1)
theorem iu{ks:List Str}{ts:List ar}{fs:List aq}{l:List Tr}(B:au ks ts fs)(hs:dF ks ts fs l):Txt.split (bu (aJ ks ts fs l)) "\n"=aL (aJ ks ts fs l)++[("":Str)]:=by
 rw [jr]
 refine fc 10 (by simp) fun p hp=>?_
 rcases List.mem_append.mp hp with hp | hp
 ·exact vd B hs p hp
 ·rw [List.mem_singleton.mp hp]
  have : ("":Str).cps.toList=[]:=rfl
  rw [this]
  exact fun z=>nomatch z
def b9(a b c i:Nat):Nat:=if i≤a then 0 else if i≤a+b then 1 else if i≤a+b+c then 2 else 3
theorem dq{α:Type}{xs:List α}{i:Nat}{x:α}(h:xs[i]? = some x):xs.take (i+1)=xs.take i++[x]:=by rw [List.take_succ,h]; rfl
theorem u7{ks:List Str}{ts:List ar}{fs:List aq}{l:List Tr}(B:au ks ts fs)(hs:dF ks ts fs l)(hl:l.length≤10){i:Nat}{row:Str}(h:(aL (aJ ks ts fs l))[i]? = some row):
  ox (b9 ks.length ts.length fs.length i) (ks.take i) (ts.take (i-ks.length)) (fs.take (i-ks.length-ts.length)) (l.take (i-ks.length-ts.length-fs.length)) row
   (b9 ks.length ts.length fs.length (i+1)) (ks.take (i+1)) (ts.take (i+1-ks.length)) (fs.take (i+1-ks.length-ts.length)) (l.take (i+1-ks.length-ts.length-fs.length)):=by
 unfold aL aJ at h
 rw [List.getElem?_map] at h
 obtain⟨ws,hw,rfl⟩:=Option.map_eq_some_iff.mp h
 by_cases h1:i<ks.length
 ·rw [List.append_assoc,List.append_assoc,List.getElem?_append_left (by rw [List.length_map]; exact h1),List.getElem?_map] at hw
  obtain⟨z,hz,rfl⟩:=Option.map_eq_some_iff.mp hw
  have e1:b9 ks.length ts.length fs.length i=0:=if_pos (by omega)
  have e2:b9 ks.length ts.length fs.length (i+1)=0:=if_pos (by omega)
  rw [e1,e2,dq hz,show i-ks.length=0 by omega,show i+1-ks.length=0 by omega,Nat.zero_sub,Nat.zero_sub]
  exact .kind z (B.kn2 z (List.mem_of_getElem? hz))
 have k1:ks.take i=ks:=List.take_of_length_le (by omega)
 have k2:ks.take (i+1)=ks:=List.take_of_length_le (by omega)
 rw [k1,k2]
 rw [List.append_assoc,List.append_assoc,List.getElem?_append_right (by rw [List.length_map]; omega),List.length_map] at hw
 by_cases h2:i<ks.length+ts.length
 ·rw [List.getElem?_append_left (by rw [List.length_map]; omega),List.getElem?_map] at hw
  obtain⟨r,hr,rfl⟩:=Option.map_eq_some_iff.mp hw
  have hr':=List.mem_of_getElem? hr
  have e2:b9 ks.length ts.length fs.length (i+1)=1:=by unfold b9; rw [if_neg (by omega),if_pos (by omega)]
  have e1:b9 ks.length ts.length fs.length i≤1:=by unfold b9; split <;> (first | omega | (rw [if_pos (by omega)]; omega))
  rw [e2,show i+1-ks.length=(i-ks.length)+1 by omega,dq hr,show i-ks.length-ts.length=0 by omega,show i-ks.length+1-ts.length=0 by omega,Nat.zero_sub]
  exact .tie r e1 (B.tn r hr').1.1 (fun k hk=>B.kn2 k ((B.tn r hr').2.2 k hk)) (B.tn r hr').2.1
 have t1:ts.take (i-ks.length)=ts:=List.take_of_length_le (by omega)
 have t2:ts.take (i+1-ks.length)=ts:=List.take_of_length_le (by omega)
 rw [t1,t2]
 rw [List.getElem?_append_right (by rw [List.length_map]; omega),List.length_map] at hw
 by_cases h3:i<ks.length+ts.length+fs.length
 ·rw [List.getElem?_append_left (by rw [List.length_map]; omega),List.getElem?_map] at hw
  obtain⟨r,hr,rfl⟩:=Option.map_eq_some_iff.mp hw
  have hr':=List.mem_of_getElem? hr
  have e2:b9 ks.length ts.length fs.length (i+1)=2:=by unfold b9; rw [if_neg (by omega),if_neg (by omega),if_pos (by omega)]
  have e1:b9 ks.length ts.length fs.length i≤2:=by
   unfold b9
   split
   ·omega
   ·split
    ·omega
    ·rw [if_pos (by omega)]; omega
  rw [e2,show i+1-ks.length-ts.length=(i-ks.length-ts.length)+1 by omega,dq hr,show i-ks.length-ts.length-fs.length=0 by omega,show i-ks.length-ts.length+1-fs.length=0 by omega]
  exact .func r e1 (B.fn r hr').1.1 (fun k hk=>B.kn2 k ((B.fn r hr').2.2.1 k hk)) (B.kn2 _ (B.fn r hr').2.2.2) (B.fn r hr').2.1
 have f1:fs.take (i-ks.length-ts.length)=fs:=List.take_of_length_le (by omega)
 have f2:fs.take (i+1-ks.length-ts.length)=fs:=List.take_of_length_le (by omega)
 rw [f1,f2]
 rw [List.getElem?_append_right (by rw [List.length_map]; omega),List.length_map,List.getElem?_map] at hw
 obtain⟨t,ht,rfl⟩:=Option.map_eq_some_iff.mp hw
 obtain⟨a1,a2⟩:=hs t (List.mem_of_getElem? ht)
 have e2:b9 ks.length ts.length fs.length (i+1)=3:=by unfold b9; rw [if_neg (by omega),if_neg (by omega),if_neg (by omega)]
 have e1:b9 ks.length ts.length fs.length i≤3:=by
  unfold b9
  split
  ·omega
  ·split
   ·omega
   ·split <;> omega
 rw [e2,show i+1-ks.length-ts.length-fs.length=(i-ks.length-ts.length-fs.length)+1 by omega,dq ht]
 exact .say t e1 a1 a2 (by rw [List.length_take]; omega)
theorem wP{ks:List Str}{ts:List ar}{fs:List aq}(B:au ks ts fs){i:Nat}(h:1≤i):au (ks.take i) (ts.take (i-ks.length)) (fs.take (i-ks.length-ts.length)):=by
 have full:∀ {x:Str},0<i-ks.length→x∈ks→x∈ks.take i:=fun p q=>by rw [List.take_of_length_le (by omega)]; exact q
 have pos:∀ {α:Type} {xs:List α} {n:Nat} {x:α},x∈xs.take n→0<n:=fun {α xs n x} h=>by
  cases n with
  | zero=>simp at h
  | succ n=>omega
 have k1:=B.k1
 have k4:=B.k4
 have sl:=B.sl
 have sn:=List.nodup_append.mp B.sn
 refine⟨B.kn.sublist (List.take_sublist _ _),by rw [List.length_take]; omega,by rw [List.length_take]; omega,fun k hk=>B.kn2 k (List.mem_of_mem_take hk),?_,by rw [List.length_take,List.length_take]; omega,fun t ht=>?_,fun t ht=>?_⟩
 ·refine B.sn.sublist (List.Sublist.append ?_ ?_)
  ·exact(List.take_sublist _ _).map _
  ·exact(List.take_sublist _ _).map _
 ·obtain⟨a1,a2,a3⟩:=B.tn t (List.mem_of_mem_take ht)
  exact⟨a1,a2,fun k hk=>full (pos ht) (a3 k hk)⟩
 ·obtain⟨a1,a2,a3,a4⟩:=B.fn t (List.mem_of_mem_take ht)
  have p:0<i-ks.length:=by have:=pos ht; omega
  exact⟨a1,a2,fun k hk=>full p (a3 k hk),full p a4⟩
theorem qO{K:PySem.W.Frag}{a:Addr}{xs:List V}{g:TG}{tb:TS}{D:dn}{σ:St}{H:Hp}(Pv:Nat→St→Hp→Prop)(h0:Pv 0 σ H)(hl:∀ i σ H,i≤xs.length→Pv i σ H→SqL K H a xs)
  (hs:∀ i x σ H p,xs[i]? = Option.some x→Pv i σ H→H p=none→g (.ref p) σ (upd H p (.tup [.int (i+1:Nat),x])) fun σ2 H2=>tb {D with nx:=Pv (i+1),ct:=Pv (i+1),bk:=D.nx} σ2 H2) (hd:∀ σ H,Pv xs.length σ H→D.nx σ H) :
  ∃ W:Nat→Nat→St→Hp→Prop,(∃ m,W 0 m σ H)∧∀ i m σ H,W i m σ H→
   ((uV K a).stop i H∧D.nx σ H)∨((uV K a).go i H∧∃ N:St→Hp→Prop,(∀ σ' H',N σ' H'→∃ m',m'<m∧W (i+1) m' σ' H')∧∀ x H',(uV K a).yld i H x H'→g x σ H' fun σ2 H2=>tb {D with nx:=N,ct:=N,bk:=D.nx} σ2 H2):=by
 refine⟨fun i m σ H=>m=xs.length-i∧i≤xs.length∧Pv i σ H,⟨xs.length,by simp,Nat.zero_le _,h0⟩,?_⟩
 rintro i m σ H ⟨rfl,hi,p⟩
 have q:=hl i σ H hi p
 by_cases hlt:i<xs.length
 ·refine .inr ⟨⟨xs,xs[i],q,by simp [hlt]⟩,Pv (i+1),fun σ' H' p'=>⟨xs.length - (i+1),by omega,rfl,hlt,p'⟩,fun x H' y=>?_⟩
  obtain⟨r,z,hr,rfl,rfl,hz⟩:=y
  exact hs i z σ _ r (hz _ q) p hr
 ·have e:i=xs.length:=by omega
  subst e
  exact .inl ⟨⟨xs,q,Nat.le_refl _⟩,hd σ H p⟩
section
abbrev d7:Stmt:=top 44
theorem zc8:ak ["text","rows","rest","draft","number","row"] ["text"] (af d7):=by walk_at "F"
inductive spRTextI(C:Addr)(CX:Addr)(vs:List V)(H:Hp)(Q:VK):Prop where
 | mk:∀ (ks:List Str) (ts:List ar) (fs:List aq) (l:List Tr),vs=[.str (bu (aJ ks ts fs l))]→au ks ts fs→dF ks ts fs l→l.length≤10→(bu (aJ ks ts fs l)).length≤200000→(∀ x H',cf C CX H' x ks ts fs l→Same H H'→Q (.ref x) H')→spRTextI C CX vs H Q
def oU(C CX:Addr):Sp:=fun vs H Q _=>spRTextI C CX vs H Q
theorem tV{C CX CD fD fX:Addr}{fdD fdX:FuncData}(F:am K mg "read_text" d7 ["text"])(Z:Bl mg)(n_enumerate:mg "enumerate"=none)(TD:ClD K CD)
  (M_Draft:Mk K CD fD) (G_Draft:aZ P w K mg base CX0 1 fD fdD ["self"] (lr CD)) (m_Draft:mg "Draft"=some (.ref CD)) (b_Draft:aU K fdD ["self"] [])
  (M_Text:Mk K CX fX) (G_Text:aZ P w K mg base CX0 32 fX fdX ["self","signs","sayings"] (fe C CX)) (m_Text:mg "Text"=some (.ref CX)) (b_Text:aU K fdX ["self","signs","sayings"] [])
  (D_read_row:Def P w K mg base "read_row" 32 ["draft","row"] (rW CD)) (D_drafted_signs:Def P w K mg base "drafted_signs" 7 ["draft"] (iF C CD)):Def P w K mg base "read_text" 34 ["text"] (oU C CX):=by
 have SC:=zc8
 refine F.mk' (k:=33) zc8 (fun vs H Q E h=>?_) (fun f cdv A outer s H vs Q E hr h=>?_)
 ·obtain⟨ks,ts,fs,l,rfl,_⟩:=h
  rfl
 ·obtain⟨ks,ts,fs,l,rfl,ok,hs,hl,ht,q⟩:=h
  refine'⟨_,?derivation,?_⟩
  case derivation=>(have:=aj 5 208 11 32; have:=aj 33 210 11 15; have:=aj 33 212 33 37; have:=aj 33 217 7 11; have:=aj 33 210 5 9; have:=aj 33 217 19 23; have:=aj 33 218 25 29; walk_at "S2")
  have ok1:=ok.k1
  have ok4:=ok.k4
  have ok8:=ok.sl
  have rl:=iH ks ts fs l
  have ol:(aL (aJ ks ts fs l)).length=ks.length+ts.length+fs.length+l.length:=by unfold aL; rw [List.length_map]; exact rl
  refine⟨_,rfl,_,_,_,rfl,.str _,bX K,true,rfl,bI ?_⟩
  refine⟨_,rfl,rfl,_,_,rfl,rfl,by decide,Nat.lt_of_le_of_lt ht (by decide),by rw [iu ok hs,List.length_append,ol]; exact Nat.le_trans (show _≤40 by rw [List.length_singleton]; omega) (by decide),?_⟩
  rw [iu ok hs]
  refine fun L hL=>⟨L,(aL (aJ ks ts fs l)).map V.str,.str "",rfl,SqL.of (by rw [aa,List.map_append]; rfl),fun R hR=>⟨_,_,rfl,_,_,rfl,rfl,?_⟩⟩
  have sR:=(ac hL (.lst ((aL (aJ ks ts fs l)++[("":Str)]).map V.str))).trans (ac hR (.lst ((aL (aJ ks ts fs l)).map V.str)))
  have eR:upd (upd H L (.lst ((aL (aJ ks ts fs l)++[("":Str)]).map V.str))) R (.lst ((aL (aJ ks ts fs l)).map V.str)) R=some (.lst ((aL (aJ ks ts fs l)).map V.str)):=aa
  generalize upd (upd H L (.lst ((aL (aJ ks ts fs l)++[("":Str)]).map V.str))) R (.lst ((aL (aJ ks ts fs l)).map V.str))=HR at sR eR
  refine fun d dx hd hdx nd=>⟨d,dx,rfl,aa,fun H3 h3=>⟨rfl,?_⟩⟩
  obtain⟨D0,s0⟩:=h3 HR fun b o e=>⟨ae e hd,by rw [ad (ae e hd),ad (ae e hdx)]; exact e⟩
  refine⟨_,rfl,R,_,rfl,SqL.of (s0 _ _ eR),qO (xs:=(aL (aJ ks ts fs l)).map V.str) (fun i σ H4=>∃ (v4 v5:Option V),σ=[some (.str (bu (aJ ks ts fs l))),some (.ref R),some (.str ""),some (.ref d),v4,v5]∧Same HR H4∧
    i8 CD HR H4 d (b9 ks.length ts.length fs.length i) (ks.take i) (ts.take (i-ks.length)) (fs.take (i-ks.length-ts.length)) (l.take (i-ks.length-ts.length-fs.length)) (5+i)) ⟨_,_,rfl,s0,?_⟩ (fun i σ H4 _ ⟨_,_,_,z,_⟩=>SqL.of (z _ _ eR)) ?_ ?_⟩
  ·have e:b9 ks.length ts.length fs.length 0=0:=if_pos (Nat.zero_le _)
   rw [e,Nat.zero_sub,Nat.zero_sub,Nat.zero_sub]
   exact D0
  ·rintro i y σ H4 p hi ⟨v4,v5,rfl,s4,D4⟩ hp
   rw [List.getElem?_map] at hi
   obtain⟨row,hrow,rfl⟩:=Option.map_eq_some_iff.mp hi
   have hil:i<40:=by have:=(List.getElem?_eq_some_iff.mp hrow).1; omega
   have sp:=ac hp (.tup [.int (i+1:Nat),.str row])
   refine⟨p,_,rfl,SqT.of aa,rfl,_,_,rfl,_,_,rfl,rfl,?_⟩
   refine⟨_,rfl,_,rfl,d,_,_,5+i,HR,row,_,_,_,_,_,_,_,_,rfl,s4.trans sp,D4.same sp,by omega,by rw [List.length_take]; omega,by rw [List.length_take]; omega,by rw [List.length_take]; omega,u7 ok hs hl hrow,wP ok (by omega),fun H5 s5 D5=>⟨_,_,rfl,s5,D5⟩⟩
  ·rintro σ H4 ⟨v4,v5,rfl,s4,D4⟩
   rw [List.length_map,ol] at D4
   rw [List.take_of_length_le (show ks.length≤_ by omega),List.take_of_length_le (show ts.length≤_ by omega),List.take_of_length_le (show fs.length≤_ by omega),List.take_of_length_le (show l.length≤_ by omega)] at D4
   have ne:(!((aL (aJ ks ts fs l)).map V.str).isEmpty)=true:=by
    cases e:aL (aJ ks ts fs l) with
    | nil=>rw [e] at ol; rw [List.length_nil] at ol; omega
    | cons a r=>rfl
   refine⟨_,rfl,false,⟨by decide,rfl⟩,ifF (by simp) ⟨_,rfl,true,.inl ⟨_,SqL.of (s4 _ _ eR),ne.symm⟩,bI ?_⟩⟩
   refine⟨_,rfl,d,_,_,HR,ks,ts,fs,l,rfl,D4,ok,fun g H6 g6 s6=>?_⟩
   obtain⟨dx',fl,k,t,f',y,tv,fv,sv,D6⟩:=D4.same s6
   refine⟨_,rfl,d,CD,dx',_,_,rfl,D6.ob,TD.cl,TD.n5,D6.a5,fun x dx2 hx hdx2 nd2=>?_⟩
   have s7:=dw (CB:=CX) hx hdx2 nd2
   have g7:=g6.same s7
   have gx:g≠x:=by
    obtain⟨_,_,_,_,_,_,z,_⟩:=g6
    rintro rfl
    rw [z] at hx; cases hx
   refine⟨x,dx2,g,y,sv,ks,ts,fs,l,rfl,aa,g7,ok,.inl (s7 _ _ D6.hy),fY (ap (Few.Same.tups s7) D6.ry),hs,by omega,gx,fun H8 t8 x8=>⟨rfl,q x H8 t8 ?_⟩⟩
   exact((sR.trans s4).trans s6).trans (dy hx s7 x8)
end
theorem dr{c:Nat}:∀ {l:List Nat},(∀ x∈l,x≤c)→l.sum≤l.length*c
 | [],_=>Nat.zero_le _
 | a::r,h=>by
  have h1:=h a List.mem_cons_self
  have h2:=dr fun x hx=>h x (List.mem_cons_of_mem _ hx)
  rw [List.sum_cons,List.length_cons,Nat.add_mul,Nat.one_mul]
  omega
theorem fF{z:Str}(h:aK z):z.length≤12:=by rw [bJ]; exact h.2.1
theorem gN{c:Nat}{l:List Str}(h:∀ x∈l,x.length≤c):(Str.join " " l).length≤l.length*(c+1):=by
 refine Nat.le_trans (gi l) (Nat.le_trans (dr (c:=c+1) fun n hn=>?_) (by rw [List.length_map]; exact Nat.le_refl _))
 obtain⟨x,hx,rfl⟩:=List.mem_map.mp hn
 have:=h x hx
 omega
theorem sw{ks:List Str}{ts:List ar}{fs:List aq}(B:au ks ts fs){k:Str}(h:k∈ks):(Str.join " " (gF k)).length≤70:=by
 refine Nat.le_trans (gN (c:=12) fun x hx=>?_) (by show 2*13≤70; decide)
 rcases List.mem_cons.mp hx with rfl | hx
 ·exact(by decide:("kind":Str).length≤12)
 ·obtain rfl:=List.mem_singleton.mp hx
  exact fF (B.kn2 _ h)
theorem lF{ks:List Str}{ts:List ar}{fs:List aq}(B:au ks ts fs){t:ar}(h:t∈ts):(Str.join " " (lG t)).length≤70:=by
 obtain⟨h1,h2,h3⟩:=B.tn t h
 refine Nat.le_trans (gN (c:=12) fun x hx=>?_) (by show (t.ps.length+1+1)*13≤70; omega)
 rcases List.mem_cons.mp hx with rfl | hx
 ·exact(by decide:("tie":Str).length≤12)
 rcases List.mem_cons.mp hx with rfl | hx
 ·exact fF h1.1
 ·exact fF (B.kn2 _ (h3 _ hx))
theorem lH{ks:List Str}{ts:List ar}{fs:List aq}(B:au ks ts fs){t:aq}(h:t∈fs):(Str.join " " (kq t)).length≤70:=by
 obtain⟨h1,h2,h3,h4⟩:=B.fn t h
 refine Nat.le_trans (gN (c:=12) fun x hx=>?_) (by show ((t.ps++[t.kd]).length+1+1)*13≤70; rw [List.length_append,List.length_singleton]; omega)
 rcases List.mem_cons.mp hx with rfl | hx
 ·exact(by decide:("function":Str).length≤12)
 rcases List.mem_cons.mp hx with rfl | hx
 ·exact fF h1.1
 rcases List.mem_append.mp hx with hx | hx
 ·exact fF (B.kn2 _ (h3 _ hx))
 ·obtain rfl:=List.mem_singleton.mp hx
  exact fF (B.kn2 _ h4)
theorem su{ks:List Str}{ts:List ar}{fs:List aq}{l:List Tr}(hs:dF ks ts fs l){t:Tr}(h:t∈l):(Str.join " " (fu t)).length≤20010:=by
 have h1:=Nat.le_trans (jj _) (hs t h).2.wt
 have h2:=gi (fu t)
 have e:((fu t).map fun x=>x.length+1).sum=("say":Str).length+1+((wr t).length+1+0):=rfl
 have e2:("say":Str).length=3:=rfl
 omega
theorem dZ{ks:List Str}{ts:List ar}{fs:List aq}{l:List Tr}(B:au ks ts fs)(hs:dF ks ts fs l):(bu (aJ ks ts fs l)).length≤852+l.length*20011:=by
 have hk:=B.k4
 have hl:=B.sl
 rw [← cj]
 unfold aJ
 simp only [List.map_append,List.sum_append]
 have a1:=dr (c:=71) (l:=((ks.map gF).map line).map (·.length)) (by
  simp only [List.map_map,List.mem_map,Function.comp]
  rintro _ ⟨k,hk,rfl⟩
  have:=sw B hk
  show (line _).length≤_
  rw [dA]; omega)
 have a2:=dr (c:=71) (l:=((ts.map lG).map line).map (·.length)) (by
  simp only [List.map_map,List.mem_map,Function.comp]
  rintro _ ⟨k,hk,rfl⟩
  have:=lF B hk
  show (line _).length≤_
  rw [dA]; omega)
 have a3:=dr (c:=71) (l:=((fs.map kq).map line).map (·.length)) (by
  simp only [List.map_map,List.mem_map,Function.comp]
  rintro _ ⟨k,hk,rfl⟩
  have:=lH B hk
  show (line _).length≤_
  rw [dA]; omega)
 have a4:=dr (c:=20011) (l:=((l.map fu).map line).map (·.length)) (by
  simp only [List.map_map,List.mem_map,Function.comp]
  rintro _ ⟨k,hk,rfl⟩
  have:=su hs hk
  show (line _).length≤_
  rw [dA]; omega)
 simp only [List.length_map] at a1 a2 a3 a4
 omega
theorem m6{ks:List Str}{ts:List ar}{fs:List aq}(B:au ks ts fs):(bu (aJ ks ts fs [])).length≤1900:=
 Nat.le_trans (dZ B (fun t h=>by cases h)) (by decide)
theorem eP(a b:Str)(r:List Str):Str.join " " (a::b::r)=a++" "++Str.join " " (b::r):=by
 apply cI
 have:=cr (A:=[a]) (B:=b::r) (by simp) (by simp)
 rw [aG,aG,List.append_assoc]
 exact this.trans rfl
theorem vf(k:Str):("kind ":Str)++k=Str.join " " (gF k):=(eP "kind" k []).symm
theorem o5(t:ar):("tie ":Str)++Str.join " " (t.nm::t.ps)=Str.join " " (lG t):=(eP "tie" t.nm t.ps).symm
theorem o6(t:aq):("function ":Str)++Str.join " " (t.nm::(t.ps++[t.kd]))=Str.join " " (kq t):=(eP "function" t.nm _).symm
theorem ve(t:Tr):("say ":Str)++wr t=Str.join " " (fu t):=(eP "say" (wr t) []).symm
theorem kP{R:Addr→Prop}{H:Hp}{b:Addr}{ks:List Str}{ts:List ar}{fs:List aq}(h:RdV R H (.ref b) (gm ks ts fs)):∃ k t f tv fv,H b=some (.tup [.ref k,.ref t,.ref f])∧R b∧R k∧H k=some (.lst (ks.map V.str))∧R t∧H t=some (.lst tv)∧RdA R H tv (ts.map j3)∧R f∧H f=some (.lst fv)∧RdA R H fv (fs.map jh):=by
 obtain⟨_,xs,e,hb,h1,h2⟩:=RdV.tuple_inv h
 cases e
 obtain⟨x,y,z,rfl,hx,hy,hz⟩:=h2.three
 obtain⟨k,kx,rfl,nk,h3,h4⟩:=hx.list_inv
 obtain rfl:=h4.strs_inv
 obtain⟨t,tx,rfl,nt,h5,h6⟩:=hy.list_inv
 obtain⟨f,fx,rfl,nf,h7,h8⟩:=hz.list_inv
 exact⟨k,t,f,tx,fx,h1,hb,nk,h3,nt,h5,h6,nf,h7,h8⟩
theorem oI{R:Addr→Prop}{H:Hp}{tv:List V}{ts:List ar}(h:RdA R H tv (ts.map j3)){i:Nat}{y:V}(hy:tv[i]? = some y):∃ t py pp,ts[i]? = some t∧y=.ref py∧H py=some (.tup [.str t.nm,.ref pp])∧R pp∧H pp=some (.lst (t.ps.map V.str)):=by
 obtain⟨d,hd,rd⟩:=h.getV hy
 rw [List.getElem?_map] at hd
 obtain⟨t,ht,rfl⟩:=Option.map_eq_some_iff.mp hd
 obtain⟨py,px,rfl,_,hpy,hpx⟩:=RdV.tuple_inv rd
 obtain⟨a1,a2,rfl,r1,r2⟩:=hpx.two
 obtain rfl:=r1.str_inv
 obtain⟨pp,ppx,rfl,rp,hpp,hps⟩:=r2.list_inv
 obtain rfl:=hps.strs_inv
 exact⟨t,py,pp,ht,rfl,hpy,rp,hpp⟩
theorem pw{R:Addr→Prop}{H:Hp}{tv:List V}{ts:List aq}(h:RdA R H tv (ts.map jh)){i:Nat}{y:V}(hy:tv[i]? = some y):∃ t py pp,ts[i]? = some t∧y=.ref py∧H py=some (.tup [.str t.nm,.ref pp,.str t.kd])∧R pp∧H pp=some (.lst (t.ps.map V.str)):=by
 obtain⟨d,hd,rd⟩:=h.getV hy
 rw [List.getElem?_map] at hd
 obtain⟨t,ht,rfl⟩:=Option.map_eq_some_iff.mp hd
 obtain⟨py,px,rfl,_,hpy,hpx⟩:=RdV.tuple_inv rd
 obtain⟨a1,a2,a3,rfl,r1,r2,r3⟩:=hpx.three
 obtain rfl:=r1.str_inv
 obtain rfl:=r3.str_inv
 obtain⟨pp,ppx,rfl,rp,hpp,hps⟩:=r2.list_inv
 obtain rfl:=hps.strs_inv
 exact⟨t,py,pp,ht,rfl,hpy,rp,hpp⟩
theorem xi{ws:List Str}{c:Nat}(h:(Str.join " " ws).length≤c)(hc:c≤100000)(hl:ws.length≤10):(ws.map (·.length)).sum+ws.length≤1048576:=by
 have:=dB ws
 omega
theorem gg{H0 H:Hp}{R:Addr}(n:H0 R=none)(o:HO)(s:Same H0 H):Same H0 (upd H R o):=fun b u h=>by rw [ad (ae h n)]; exact s b u h
section
abbrev fi:Stmt:=top 64
theorem zc9:ak ["_law_book_here","_law_sayings","_law_made","_law_name","_law_places","_law_kind"] ["_law_book_here","_law_sayings"] (af fi):=by walk_at "F"
inductive spRowsI(vs:List V)(H:Hp)(Q:VK):Prop where
 | mk:∀ (b a:Addr) (sv:List V) (ks:List Str) (ts:List ar) (fs:List aq) (l:List Tr),vs=[.ref b,.ref a]→RdV Any H (.ref b) (gm ks ts fs)→au ks ts fs→H a=some (.lst sv)→aQ H sv l→dF ks ts fs l→l.length≤6→(∀ H',Same H H'→Q (.str (bu (aJ ks ts fs l))) H')→spRowsI vs H Q
def j9:Sp:=fun vs H Q _=>spRowsI vs H Q
theorem vQ(F:am K mg "_law_rows" fi ["_law_book_here","_law_sayings"])(Z:Bl mg)(D_law_written:Def P w K mg base "_law_written" (12+2) ["_law_thing"] (j6 12)):Def P w K mg base "_law_rows" 15 ["_law_book_here","_law_sayings"] j9:=by
 have SC:=zc9
 refine F.mk' (k:=14) zc9 (fun vs H Q E h=>?_) (fun f cdv A outer s H vs Q E hr h=>?_)
 ·obtain⟨b,a,sv,ks,ts,fs,l,rfl,_⟩:=h
  rfl
 ·obtain⟨b,a,sv,ks,ts,fs,l,rfl,hb,ok,ha,rs,hs,hl,q⟩:=h
  refine'⟨_,?derivation,?_⟩
  case derivation=>(have:=aj 13 355 34 51; have:=aj 13 357 45 62; have:=aj 31 360 11 63; have:=aj 2 354 17 36; have:=aj 13 354 54 71; have:=aj 2 356 25 75; have:=aj 2 358 25 94; have:=aj 2 359 22 61; have:=aj 2 360 20 35; have:=aj 31 356 34 75; have:=aj 31 358 39 94; have:=aj 18 356 43 74; have:=aj 18 358 48 93; have:=aj 18 358 48 79; have:=aT 359 21 99 1 ["_law_saying_here","_law_book_here","_law_sayings","_law_made","_law_name","_law_places","_law_kind"]; have:=aT 360 19 62 1 ["_law_row","_law_book_here","_law_sayings","_law_made","_law_name","_law_places","_law_kind"]; have:=aT 354 4 72 1 ["_law_kind","_law_book_here","_law_sayings","_law_made","_law_name","_law_places",".h_law_kind"]; walk_at "S2")
  obtain⟨k,t,f',tv,fv,hb0,_,_,hk,_,ht,rt,_,hf,rf⟩:=kP hb
  have ok8:=ok.sl
  have ok4:=ok.k4
  refine⟨_,rfl,b,_,0,_,rfl,rfl,SqT.of hb0,rfl,k,rfl,⟨_,SqL.of hk⟩,fun cl C1 ex s0 Hc=>?_⟩
  refine aN (ks.map V.str).length (fun i ys H2=>Same H H2∧ys=((ks.take i).map fun k=>Str.join " " (gF k)).map V.str) (fun i y=>(ks.map V.str)[i]? = some y) ⟨Same.refl _,rfl⟩ (by rw [List.length_map]; exact Nat.le_trans ok4 (by decide))
   (fun i ys H2 hi _ h=>bm (SqL.of (h.1 _ _ hk)) hi) (fun ys H2 _ h=>aO (SqL.of (h.1 _ _ hk))) ?_ ?_
  ·rintro i y ys H2 hi hy yl ⟨s2,rfl⟩
   rw [List.getElem?_map] at hy
   obtain⟨z,hz,rfl⟩:=Option.map_eq_some_iff.mp hy
   have zl:=fF (ok.kn2 _ (List.mem_of_getElem? hz))
   refine⟨_,rfl,_,_,rfl,rfl,?_,s2,?_⟩
   ·have : ("kind ":Str).length=5:=rfl
    exact Nat.le_trans (show ("kind ":Str).length+z.length≤20 by omega) (by decide)
   ·rw [List.take_succ,hz]
    simp only [Option.toList_some,List.map_append,List.map_cons,List.map_nil,← vf]
  rintro ys1 H1 yl1 ⟨s1,rfl⟩ R hR
  rw [List.length_map,List.take_length]
  have hRH:H R=none:=by
   cases e:H R with
   | none=>rfl
   | some o=>rw [s1 _ _ e] at hR; cases hR
  have sR:=s1.trans (ac hR (.lst ((ks.map fun k=>Str.join " " (gF k)).map V.str)))
  have eR:upd H1 R (.lst ((ks.map fun k=>Str.join " " (gF k)).map V.str)) R=some (.lst ((ks.map fun k=>Str.join " " (gF k)).map V.str)):=aa
  generalize upd H1 R (.lst ((ks.map fun k=>Str.join " " (gF k)).map V.str))=HR at sR eR
  have tl:tv.length=ts.length:=by rw [RdA.length rt,List.length_map]
  have fl:fv.length=fs.length:=by rw [RdA.length rf,List.length_map]
  have sl:sv.length=l.length:=aQ.length rs
  refine⟨_,rfl,b,_,1,_,rfl,rfl,SqT.of (sR _ _ hb0),rfl,t,rfl,⟨_,SqL.of (sR _ _ ht)⟩,?_⟩
  refine dC (K:=K) (a:=t) (xs:=tv) (fun i σ H2=>∃ (v3 v4 v5:Option V),σ=[some (.ref b),some (.ref a),some (.ref R),v3,v4,v5]∧Same H H2∧H2 R=some (.lst (((ks.map fun k=>Str.join " " (gF k))++(ts.take i).map fun t=>Str.join " " (lG t)).map V.str)))
   ⟨_,_,_,rfl,sR,by rw [List.take_zero,List.map_nil,List.append_nil]; exact eR⟩ (fun i σ H2 _ ⟨_,_,_,_,y,_⟩=>SqL.of (y _ _ ht)) ?_ ?_
  ·rintro i y σ H2 hi ⟨v3,v4,v5,rfl,s2,e2⟩
   obtain⟨x,py,pp,hx,rfl,hpy,_,hpp⟩:=oI rt hi
   have x2:=(ok.tn x (List.mem_of_getElem? hx)).2.1
   have xl:=lF ok (List.mem_of_getElem? hx)
   rw [← o5,bj] at xl
   refine⟨py,_,rfl,SqT.of (s2 _ _ hpy),rfl,_,_,rfl,_,_,rfl,rfl,?_⟩
   refine⟨_,rfl,.inl ⟨rfl,_,SqL.of e2⟩,rfl,_,rfl,(by show 1≤sizeLine; decide),fun p1 hp1=>⟨_,rfl,pp,_,rfl,.inl (SqL.of (ac hp1 _ _ _ (s2 _ _ hpp))),fun p2 hp2=>?_⟩⟩
   refine⟨p1,p2,_,_,rfl,rfl,ac hp2 _ _ _ aa,aa,by rw [List.length_map]; exact Nat.le_trans (show 1+x.ps.length≤4 by omega) (by decide),fun p3 hp3=>?_⟩
   have s5:=((ac hp1 (.lst [.str x.nm])).trans (ac hp2 (.lst (x.ps.map V.str)))).trans (ac hp3 (.lst ([.str x.nm]++x.ps.map V.str)))
   have e5:=s5 _ _ e2
   refine⟨" ",p3,x.nm::x.ps,rfl,rfl,SqL.of aa,by decide,xi (c:=70) (by omega) (by decide) (by rw [List.length_cons]; omega),_,_,rfl,rfl,Nat.le_trans xl (by decide),R,_,_,rfl,rfl,e5,?_,_,_,_,rfl,gg hRH _ (s2.trans s5),?_⟩
   ·simp only [List.length_map,List.length_append,List.length_take]
    exact Nat.lt_of_le_of_lt (show ks.length+min i ts.length≤20 by omega) (by decide)
   ·rw [aa,List.take_succ,hx]
    simp only [Option.toList_some,List.map_append,List.map_cons,List.map_nil,← o5,List.append_assoc]
  rintro σ H2 ⟨v3,v4,v5,rfl,s2,e2⟩
  rw [tl,List.take_length] at e2
  generalize hA:(ks.map fun k=>Str.join " " (gF k))++(ts.map fun t=>Str.join " " (lG t))=A2 at e2
  have lA:A2.length=ks.length+ts.length:=by rw [← hA,List.length_append,List.length_map,List.length_map]
  refine⟨_,rfl,b,_,2,_,rfl,rfl,SqT.of (s2 _ _ hb0),rfl,f',rfl,⟨_,SqL.of (s2 _ _ hf)⟩,?_⟩
  refine dC (K:=K) (a:=f') (xs:=fv) (fun i σ H2=>∃ (v3 v4 v5:Option V),σ=[some (.ref b),some (.ref a),some (.ref R),v3,v4,v5]∧Same H H2∧H2 R=some (.lst ((A2++(fs.take i).map fun t=>Str.join " " (kq t)).map V.str)))
   ⟨_,_,_,rfl,s2,by rw [List.take_zero,List.map_nil,List.append_nil]; exact e2⟩ (fun i σ H2 _ ⟨_,_,_,_,y,_⟩=>SqL.of (y _ _ hf)) ?_ ?_
  ·rintro i y σ H2 hi ⟨v3,v4,v5,rfl,s2,e2⟩
   obtain⟨x,py,pp,hx,rfl,hpy,_,hpp⟩:=pw rf hi
   have x2:=(ok.fn x (List.mem_of_getElem? hx)).2.1
   have xl:=lH ok (List.mem_of_getElem? hx)
   rw [← o6,bj] at xl
   refine⟨py,_,rfl,SqT.of (s2 _ _ hpy),rfl,_,_,rfl,_,_,rfl,_,_,rfl,rfl,?_⟩
   refine⟨_,rfl,.inl ⟨rfl,_,SqL.of e2⟩,rfl,_,rfl,(by show 1≤sizeLine; decide),fun p1 hp1=>⟨_,rfl,pp,_,rfl,.inl (SqL.of (ac hp1 _ _ _ (s2 _ _ hpp))),fun p2 hp2=>?_⟩⟩
   refine⟨p1,p2,_,_,rfl,rfl,ac hp2 _ _ _ aa,aa,by rw [List.length_map]; exact Nat.le_trans (show 1+x.ps.length≤4 by omega) (by decide),fun p3 hp3=>?_⟩
   have s5:=((ac hp1 (.lst [.str x.nm])).trans (ac hp2 (.lst (x.ps.map V.str)))).trans (ac hp3 (.lst ([.str x.nm]++x.ps.map V.str)))
   refine⟨_,rfl,(by show 1≤sizeLine; decide),fun p4 hp4=>⟨p3,p4,_,_,rfl,rfl,ac hp4 _ _ _ aa,aa,by rw [List.length_append,List.length_map]; exact Nat.le_trans (show 1+x.ps.length+1≤5 by omega) (by decide),fun p5 hp5=>?_⟩⟩
   have s6:=(s5.trans (ac hp4 (.lst [.str x.kd]))).trans (ac hp5 (.lst ([.str x.nm]++x.ps.map V.str++[.str x.kd])))
   have e5:=s6 _ _ e2
   refine⟨" ",p5,x.nm::(x.ps++[x.kd]),rfl,rfl,SqL.of (by rw [aa]; simp),by decide,xi (c:=70) (by omega) (by decide) (by rw [List.length_cons,List.length_append,List.length_singleton]; omega),_,_,rfl,rfl,Nat.le_trans xl (by decide),R,_,_,rfl,rfl,e5,?_,_,_,_,rfl,gg hRH _ (s2.trans s6),?_⟩
   ·simp only [List.length_map,List.length_append,List.length_take]
    exact Nat.lt_of_le_of_lt (show A2.length+min i fs.length≤20 by omega) (by decide)
   ·rw [aa,List.take_succ,hx]
    simp only [Option.toList_some,List.map_append,List.map_cons,List.map_nil,← o6,List.append_assoc]
  rintro σ H2 ⟨v3,v4,v5,rfl,s2,e2⟩
  rw [fl,List.take_length] at e2
  generalize hA3:A2++(fs.map fun t=>Str.join " " (kq t))=A3 at e2
  have lA3:A3.length=ks.length+ts.length+fs.length:=by rw [← hA3,List.length_append,List.length_map,lA]
  refine⟨_,rfl,.inl ⟨rfl,_,SqL.of e2⟩,_,rfl,a,rfl,⟨_,SqL.of (s2 _ _ ha)⟩,fun cl C1 ex s0 Hc=>?_⟩
  refine aN sv.length (fun i ys H3=>Same H2 H3∧ys=((l.take i).map fun t=>Str.join " " (fu t)).map V.str) (fun i y=>sv[i]? = some y) ⟨Same.refl _,rfl⟩ (Nat.le_trans (show sv.length≤10 by omega) (by decide))
   (fun i ys H3 hi _ h=>bm (SqL.of (h.1 _ _ (s2 _ _ ha))) hi) (fun ys H3 _ h=>aO (SqL.of (h.1 _ _ (s2 _ _ ha)))) ?_ ?_
  ·rintro i y ys H3 hi hy yl ⟨s3,rfl⟩
   obtain⟨x,hx,tx⟩:=rs.get hy
   obtain⟨h1,h2⟩:=hs x (List.mem_of_getElem? hx)
   have wl:(wr x).length≤20000:=Nat.le_trans (jj _) h2.wt
   refine⟨_,rfl,y,x,rfl,aX (Few.Same.tups (s2.trans s3)) tx,Nat.le_trans h2.dp (by decide),by omega,fun H4 s4=>⟨_,_,rfl,rfl,?_,s3.trans s4,?_⟩⟩
   ·have : ("say ":Str).length=4:=rfl
    exact Nat.le_trans (show ("say ":Str).length+(wr x).length≤20010 by omega) (by decide)
   ·rw [List.take_succ,hx]
    simp only [Option.toList_some,List.map_append,List.map_cons,List.map_nil,← ve]
  rintro ys4 H4 yl4 ⟨s4,rfl⟩ D4 hD4
  rw [sl,List.take_length]
  have sD:=s4.trans (ac hD4 (.lst ((l.map fun t=>Str.join " " (fu t)).map V.str)))
  refine⟨R,D4,_,_,rfl,rfl,sD _ _ e2,aa,by simp only [List.length_map]; exact Nat.le_trans (show A3.length+l.length≤40 by omega) (by decide),?_⟩
  have sE:=gg hRH (.lst (A3.map V.str++(l.map fun t=>Str.join " " (fu t)).map V.str)) (s2.trans sD)
  have eE:upd (upd H4 D4 (.lst ((l.map fun t=>Str.join " " (fu t)).map V.str))) R (.lst (A3.map V.str++(l.map fun t=>Str.join " " (fu t)).map V.str)) R=some (.lst ((aL (aJ ks ts fs l)).map V.str)):=by
   rw [aa,← List.map_append,← hA3,← hA]
   unfold aL aJ
   simp only [List.map_append,List.map_map]
   rfl
  generalize upd (upd H4 D4 (.lst ((l.map fun t=>Str.join " " (fu t)).map V.str))) R (.lst (A3.map V.str++(l.map fun t=>Str.join " " (fu t)).map V.str))=HE at sE eE
  have rl:=iH ks ts fs l
  have ol:(aL (aJ ks ts fs l)).length=ks.length+ts.length+fs.length+l.length:=by unfold aL; rw [List.length_map]; exact rl
  have tl:=dZ ok hs
  refine⟨rfl,_,rfl,R,rfl,⟨_,SqL.of eE⟩,fun cl C1 ex s0 Hc=>?_⟩
  refine aN ((aL (aJ ks ts fs l)).map V.str).length (fun i ys H2=>Same HE H2∧ys=(((aJ ks ts fs l).take i).map line).map V.str) (fun i y=>((aL (aJ ks ts fs l)).map V.str)[i]? = some y) ⟨Same.refl _,rfl⟩ (by rw [List.length_map]; exact Nat.le_trans (show _≤40 by omega) (by decide))
   (fun i ys H2 hi _ h=>bm (SqL.of (h.1 _ _ eE)) hi) (fun ys H2 _ h=>aO (SqL.of (h.1 _ _ eE))) ?_ ?_
  ·rintro i y ys H2 hi hy yl ⟨s2,rfl⟩
   rw [List.getElem?_map] at hy
   obtain⟨z,hz,rfl⟩:=Option.map_eq_some_iff.mp hy
   unfold aL at hz
   rw [List.getElem?_map] at hz
   obtain⟨ws,hws,rfl⟩:=Option.map_eq_some_iff.mp hz
   have ll:=mr (List.mem_of_getElem? hws)
   rw [dA] at ll
   refine⟨_,rfl,_,_,rfl,rfl,?_,s2,?_⟩
   ·have : ("\n":Str).length=1:=rfl
    exact Nat.le_trans (show (Str.join " " ws).length+("\n":Str).length≤300000 by omega) (by decide)
   ·rw [List.take_succ,hws]
    simp only [Option.toList_some,List.map_append,List.map_cons,List.map_nil]
    rfl
  ·rintro ys5 H5 yl5 ⟨s5,rfl⟩ D5 hD5
   rw [List.length_map,ol,← rl,List.take_length]
   refine⟨"",D5,_,rfl,rfl,SqL.of aa,by decide,?_,q _ ((sE.trans s5).trans (ac hD5 _))⟩
   rw [cj,List.length_map]
   omega
end
def Cl(R:Addr→Prop)(H H':Hp):Prop:=∀ a o,H a=some o→H' a=some o∨(R a∧(∃ xs,o=.lst xs)∧H' a=some (.lst []))
theorem Cl.refl{R:Addr→Prop}{H:Hp}:Cl R H H:=fun _ _ e=>.inl e
theorem Cl.trans{R:Addr→Prop}{H H1 H2:Hp}(h:Cl R H H1)(k:Cl R H1 H2):Cl R H H2:=fun a o e=>by
 rcases h a o e with e1 | ⟨r,x,e1⟩
 ·exact k a o e1
 ·rcases k _ _ e1 with e2 | ⟨_,_,e2⟩
  ·exact .inr ⟨r,x,e2⟩
  ·exact .inr ⟨r,x,e2⟩
theorem Cl.tups{R:Addr→Prop}{H H':Hp}(h:Cl R H H'):cP H H':=fun a xs e=>by
 rcases h a _ e with e | ⟨_,⟨_,z⟩,_⟩
 ·exact e
 ·cases z
theorem Cl.ins{R:Addr→Prop}{H H':Hp}(h:Cl R H H'){a C dx:Addr}{fl:List (Str×V)}(e:H a=some (.ins C dx fl)):H' a=some (.ins C dx fl):=by
 rcases h a _ e with e | ⟨_,⟨_,z⟩,_⟩
 ·exact e
 ·cases z
theorem Cl.out{R:Addr→Prop}{H H':Hp}(h:Cl R H H'){a:Addr}{o:HO}(n:¬ R a)(e:H a=some o):H' a=some o:=by
 rcases h a _ e with e | ⟨r,_⟩
 ·exact e
 ·exact absurd r n
theorem Em.cl{R:Addr→Prop}{H H':Hp}(c:Cl R H H'):∀ {n:Nat} {v:V},Em R H n v→Em R H' n v
 | _,_,.str x=>.str x
 | _,_,.tup e r=>.tup (c.tups _ _ e) fun x hx=>Em.cl c (r x hx)
 | _,_,.lst ra e r=>by
  rcases c _ _ e with e' | ⟨_,_,e'⟩
  ·exact .lst ra e' fun x hx=>Em.cl c (r x hx)
  ·exact .lst ra e' fun _ z=>nomatch z
theorem Cl.clear{R:Addr→Prop}{H:Hp}{a:Addr}{xs:List V}(r:R a)(e:H a=some (.lst xs)):Cl R H (upd H a (.lst [])):=fun b o eb=>by
 by_cases h:b=a
 ·subst h
  rw [e] at eb
  exact .inr ⟨r,⟨xs,(Option.some.inj eb).symm⟩,aa⟩
 ·exact .inl (by rw [ad h]; exact eb)
theorem pA{J:It}{g:TG}{tb:TS}{D:dn}{σ:St}{H:Hp}(Pv:St→Hp→Prop)(G:Hp→V→Prop)(N:Nat)(h0:Pv σ H)(hJ:∀ i σ H,Pv σ H→J.stop i H∨(i<N∧J.go i H∧∀ x H',J.yld i H x H'→H'=H∧G H x))
  (hs:∀ x σ H,Pv σ H→G H x→g x σ H fun σ2 H2=>tb {D with nx:=Pv,ct:=Pv,bk:=D.nx} σ2 H2) (hd:∀ σ H,Pv σ H→D.nx σ H) :
  ∃ W:Nat→Nat→St→Hp→Prop,(∃ m,W 0 m σ H)∧∀ i m σ H,W i m σ H→
   (J.stop i H∧D.nx σ H)∨(J.go i H∧∃ N:St→Hp→Prop,(∀ σ' H',N σ' H'→∃ m',m'<m∧W (i+1) m' σ' H')∧∀ x H',J.yld i H x H'→g x σ H' fun σ2 H2=>tb {D with nx:=N,ct:=N,bk:=D.nx} σ2 H2):=by
 refine⟨fun i m σ H=>m=N-i∧Pv σ H,⟨N,rfl,h0⟩,?_⟩
 rintro i m σ H ⟨rfl,p⟩
 rcases hJ i σ H p with h | ⟨hi,hg,hy⟩
 ·exact .inl ⟨h,hd σ H p⟩
 ·refine .inr ⟨hg,Pv,fun σ' H' p'=>⟨N - (i+1),by omega,rfl,p'⟩,fun x H' y=>?_⟩
  obtain⟨rfl,gx⟩:=hy x H' y
  exact hs x σ _ p gx
section
abbrev cn:Stmt:=top 62
theorem zda:ak ["_law_thing","_law_one"] ["_law_thing"] (af cn):=by walk_at "F"
inductive spEmptyI(n:Nat)(vs:List V)(H:Hp)(Q:VK):Prop where
 | mk:∀ (v:V) (R:Addr→Prop),vs=[v]→Em R H n v→(∀ H',Cl R H H'→Q .non H')→spEmptyI n vs H Q
def f8(n:Nat):Sp:=fun vs H Q _=>spEmptyI n vs H Q
def iE:Nat→Sp
 | 0=>fun _ _ _ _=>False
 | n+1=>f8 n
theorem gX{m:Nat}{vs:List V}{H:Hp}{Q:VK}{E:XK}(h:f8 m vs H Q E):iE (m+1) vs H Q E:=h
theorem g8(F:am K mg "_law_empty" cn ["_law_thing"])(Z:Bl mg)(n:Nat)(D_law_empty:Def P w K mg base "_law_empty" (n+1) ["_law_thing"] (iE n)):Def P w K mg base "_law_empty" (n+2) ["_law_thing"] (f8 n):=by
 have SC:=zda
 refine F.mk' (k:=n+1) zda (fun vs H Q E h=>?_) (fun f cdv A outer s H vs Q E hr h=>?_)
 ·obtain⟨v,R,rfl,_⟩:=h
  rfl
 ·obtain⟨v,R,rfl,he,q⟩:=h
  refine'⟨_,?derivation,?_⟩
  case derivation=>(have:=aj 35 342 7 35; have:=aj 5 339 11 38; have:=aj 11 340 24 34; walk_at "S2")
  cases he with
  | str x=>exact⟨_,rfl,_,_,_,rfl,.str _,bX K,true,rfl,bI ⟨_,rfl,_,_,false,rfl,.str _,rfl,false,rfl,ifF (by simp) (q H .refl)⟩⟩
  | tup h r=>
   rename_i m a xs
   refine⟨_,rfl,_,_,false,rfl,.tup h,rfl,false,rfl,zL ?_⟩
   refine .inr ⟨_,rfl,a,rfl,⟨_,SqT.of h⟩,pA (fun σ H2=>∃ v1:Option V,σ=[some (.ref a),v1]∧Cl R H H2) (fun H2 x=>Em R H2 m x) xs.length ⟨_,rfl,.refl⟩ ?_ ?_ ?_⟩
   ·rintro i σ H2 ⟨v1,rfl,c2⟩
    have e2:=c2.tups _ _ h
    by_cases hi:i<xs.length
    ·obtain⟨g1,g2⟩:=og (K:=K) (SqT.of e2) hi
     refine .inr ⟨hi,g1,fun x H' y=>?_⟩
     obtain⟨rfl,hx⟩:=g2 x H' y
     exact⟨rfl,(r x (List.mem_of_getElem? hx)).cl c2⟩
    ·exact .inl ⟨xs,SqT.of e2,by omega⟩
   ·rintro x σ H2 ⟨v1,rfl,c2⟩ ex
    refine⟨_,rfl,?_⟩
    unfold e7
    exact gX (E:=E0) ⟨x,R,rfl,ex,fun H3 c3=>⟨_,rfl,c2.trans c3⟩⟩
   ·rintro σ H2 ⟨v1,rfl,c2⟩
    exact⟨_,rfl,_,_,false,rfl,.tup (c2.tups _ _ h),rfl,false,rfl,ifF (by simp) (q H2 c2)⟩
  | lst ra h r=>
   rename_i m a xs
   refine⟨_,rfl,_,_,false,rfl,.lst h,rfl,false,rfl,zL ?_⟩
   refine .inl ⟨_,rfl,a,rfl,⟨_,SqL.of h⟩,pA (fun σ H2=>∃ v1:Option V,σ=[some (.ref a),v1]∧Cl R H H2) (fun H2 x=>Em R H2 m x) xs.length ⟨_,rfl,.refl⟩ ?_ ?_ ?_⟩
   ·rintro i σ H2 ⟨v1,rfl,c2⟩
    rcases c2 _ _ h with e2 | ⟨_,_,e2⟩
    ·by_cases hi:i<xs.length
     ·obtain⟨g1,g2⟩:=bm (K:=K) (SqL.of e2) hi
      refine .inr ⟨hi,g1,fun x H' y=>?_⟩
      obtain⟨rfl,hx⟩:=g2 x H' y
      exact⟨rfl,(r x (List.mem_of_getElem? hx)).cl c2⟩
     ·exact .inl ⟨xs,SqL.of e2,by omega⟩
    ·exact .inl ⟨[],SqL.of e2,Nat.zero_le _⟩
   ·rintro x σ H2 ⟨v1,rfl,c2⟩ ex
    refine⟨_,rfl,?_⟩
    unfold e7
    exact gX (E:=E0) ⟨x,R,rfl,ex,fun H3 c3=>⟨_,rfl,c2.trans c3⟩⟩
   ·rintro σ H2 ⟨v1,rfl,c2⟩
    obtain⟨ys,e2⟩:∃ ys,H2 a=some (.lst ys):=by
     rcases c2 _ _ h with e2 | ⟨_,_,e2⟩
     ·exact⟨_,e2⟩
     ·exact⟨_,e2⟩
    exact⟨_,rfl,_,_,true,rfl,.lst e2,rfl,true,rfl,ifT rfl ⟨_,rfl,.inl ⟨rfl,_,SqL.of e2⟩,a,ys,rfl,rfl,e2,q _ (c2.trans (.clear ra e2))⟩⟩
theorem ql(F:am K mg "_law_empty" cn ["_law_thing"]):Def P w K mg base "_law_empty" 1 ["_law_thing"] (iE 0):=
 F.mk' (k:=0) zda (fun vs H Q E h=>False.elim h) fun f cdv A outer s H vs Q E hr h=>False.elim h
theorem lR(F:am K mg "_law_empty" cn ["_law_thing"])(Z:Bl mg):∀ n,Def P w K mg base "_law_empty" (n+2) ["_law_thing"] (f8 n)
 | 0=>g8 F Z 0 (ql F)
 | n+1=>g8 F Z (n+1) (lR F Z n)
end
structure Pr(D W:Nat)(d:PyData):Prop where
 sh:d.showable=true
 nd:d.hasDict=false
 dp:d.depth≤D
 lv:d.leavesShort 8=true
 wt:d.weight≤W
theorem Pr.mono{D D' W W':Nat}{d:PyData}(h:Pr D W d)(h1:D≤D')(h2:W≤W'):Pr D' W' d:=⟨h.sh,h.nd,Nat.le_trans h.dp h1,h.lv,Nat.le_trans h.wt h2⟩
theorem Pr.all{D W:Nat}:∀ {ds:List PyData},(∀ d∈ds,Pr D W d)→PyData.showableAll ds=true∧PyData.hasDictAll ds=false∧PyData.depthAll ds≤D∧PyData.leavesShortAll 8 ds=true∧PyData.weightAll ds≤ds.length*(W+1)
 | [],_=>by simp [PyData.showableAll,PyData.hasDictAll,PyData.depthAll,PyData.leavesShortAll,PyData.weightAll]
 | d::r,h=>by
  obtain⟨a1,a2,a3,a4,a5⟩:=Pr.all (ds:=r) fun x hx=>h x (List.mem_cons_of_mem _ hx)
  have p:=h d List.mem_cons_self
  refine⟨?_,?_,?_,?_,?_⟩
  ·simp only [PyData.showableAll,p.sh,a1,Bool.and_self]
  ·simp only [PyData.hasDictAll,p.nd,a2,Bool.or_self]
  ·simp only [PyData.depthAll]
   have:=p.dp
   omega
  ·simp only [PyData.leavesShortAll,p.lv,a4,Bool.and_self]
  ·simp only [PyData.weightAll,List.length_cons,Nat.add_mul]
   have:=p.wt
   omega
theorem Pr.list{D W n:Nat}{ds:List PyData}(h:∀ d∈ds,Pr D W d)(hn:ds.length≤n):Pr (D+1) (n*(W+1)) (.list ds):=by
 obtain⟨a1,a2,a3,a4,a5⟩:=Pr.all h
 have:=Nat.mul_le_mul_right (W+1) hn
 exact⟨by simpa only [PyData.showable] using a1,by simpa only [PyData.hasDict] using a2,by simp only [PyData.depth]; omega,by simpa only [PyData.leavesShort] using a4,by simp only [PyData.weight]; omega⟩
theorem Pr.tuple{D W n:Nat}{ds:List PyData}(h:∀ d∈ds,Pr D W d)(hn:ds.length≤n):Pr (D+1) (n*(W+1)) (.tuple ds):=by
 obtain⟨a1,a2,a3,a4,a5⟩:=Pr.all h
 have:=Nat.mul_le_mul_right (W+1) hn
 exact⟨by simpa only [PyData.showable] using a1,by simpa only [PyData.hasDict] using a2,by simp only [PyData.depth]; omega,by simpa only [PyData.leavesShort] using a4,by simp only [PyData.weight]; omega⟩
theorem Pr.nm{z:Str}(h:aK z):Pr 0 12 (.str z):=by
 refine⟨rfl,rfl,by simp [PyData.depth],?_,?_⟩
 ·simp only [PyData.leavesShort,List.all_eq_true,decide_eq_true_eq]
  intro c hc
  have:=h.2.2 c hc
  omega
 ·simp only [PyData.weight]
  have:=h.2.1
  simpa using this
theorem Pr.fits{D W:Nat}{d:PyData}(h:Pr D W d)(hD:D≤60)(hW:W≤2 ^ 20):d.showable=true∧d.hasDict=false∧d.depth≤60∧d.shown.length≤sizeLine:=
 ⟨h.sh,h.nd,Nat.le_trans h.dp hD,PyData.shown_fits (B:=8) (by decide) (by decide) h.lv (Nat.le_trans h.wt hW)⟩
theorem Pr.strs{ws:List Str}(h:∀ k∈ws,aK k):∀ d∈cH ws,Pr 0 12 d:=fun d hd=>by
 obtain⟨k,hk,rfl⟩:=List.mem_map.mp hd
 exact Pr.nm (h k hk)
theorem Pr.two{D W:Nat}{a b:PyData}(ha:Pr D W a)(hb:Pr D W b):∀ d∈[a,b],Pr D W d:=fun d hd=>by
 rcases List.mem_cons.mp hd with rfl | hd
 ·exact ha
 ·rw [List.mem_singleton.mp hd]; exact hb
theorem Pr.three{D W:Nat}{a b c:PyData}(ha:Pr D W a)(hb:Pr D W b)(hc:Pr D W c):∀ d∈[a,b,c],Pr D W d:=fun d hd=>by
 rcases List.mem_cons.mp hd with rfl | hd
 ·exact ha
 ·exact Pr.two hb hc d hd
theorem au.tieNm{ks:List Str}{ts:List ar}{fs:List aq}(ok:au ks ts fs){t:ar}(ht:t∈ts):aK t.nm∧t.ps.length≤2∧∀ k∈t.ps,aK k:=
 let ⟨a,b,c⟩:=ok.tn t ht; ⟨a.1,b,fun k hk=>ok.kn2 k (c k hk)⟩
theorem au.funNm{ks:List Str}{ts:List ar}{fs:List aq}(ok:au ks ts fs){t:aq}(ht:t∈fs):aK t.nm∧t.ps.length≤2∧(∀ k∈t.ps,aK k)∧aK t.kd:=
 let ⟨a,b,c,d⟩:=ok.fn t ht; ⟨a.1,b,fun k hk=>ok.kn2 k (c k hk),ok.kn2 _ d⟩
def wI(ks:List Str)(ts:List ar)(fs:List aq):PyData:=.tuple [.list (cH ks),.list (ts.map dG),.list (fs.map dO)]
theorem uI{ks:List Str}{ts:List ar}{fs:List aq}(ok:au ks ts fs):Pr 4 3000 (wI ks ts fs):=by
 have sl:=ok.sl
 have k4:=ok.k4
 have h1:Pr 3 900 (.list (cH ks)):=(Pr.list (n:=4) (Pr.strs ok.kn2) (by unfold cH; rw [List.length_map]; exact k4)).mono (by decide) (by decide)
 have h2:Pr 3 900 (.list (ts.map dG)):=by
  refine(Pr.list (D:=2) (W:=81) (n:=8) (fun d hd=>?_) (by rw [List.length_map]; omega)).mono (by decide) (by decide)
  obtain⟨t,ht,rfl⟩:=List.mem_map.mp hd
  obtain⟨o1,o2,o3⟩:=ok.tieNm ht
  exact(Pr.tuple (D:=1) (W:=26) (n:=2) (Pr.two ((Pr.nm o1).mono (by decide) (by decide)) ((Pr.tuple (n:=2) (Pr.strs o3) (by unfold cH; rw [List.length_map]; exact o2)).mono (by decide) (by decide))) (Nat.le_refl _)).mono (by decide) (by decide)
 have h3:Pr 3 900 (.list (fs.map dO)):=by
  refine(Pr.list (D:=2) (W:=81) (n:=8) (fun d hd=>?_) (by rw [List.length_map]; omega)).mono (by decide) (by decide)
  obtain⟨t,ht,rfl⟩:=List.mem_map.mp hd
  obtain⟨o1,o2,o3,o4⟩:=ok.funNm ht
  exact(Pr.tuple (D:=1) (W:=26) (n:=3) (Pr.three ((Pr.nm o1).mono (by decide) (by decide)) ((Pr.tuple (n:=2) (Pr.strs o3) (by unfold cH; rw [List.length_map]; exact o2)).mono (by decide) (by decide)) ((Pr.nm o4).mono (by decide) (by decide))) (Nat.le_refl _)).mono (by decide) (by decide)
 exact(Pr.tuple (n:=3) (Pr.three h1 h2 h3) (Nat.le_refl _)).mono (by decide) (by decide)
theorem dF.shows{ks:List Str}{ts:List ar}{fs:List aq}{l:List Tr}(hs:dF ks ts fs l)(hl:l.length≤6):Fit 8 121000 (.node l):=(Fit.node (bN.all (n:=6) (fun t ht=>(hs t ht).2) hl)).mono (by decide) (by decide)
section
abbrev cw:Stmt:=top 65
theorem zdb:ak ["_law_signs"] ["_law_signs"] (af cw):=by walk_at "F"
inductive spBToldI(C:Addr)(vs:List V)(H:Hp)(Q:VK):Prop where
 | mk:∀ (x:Addr) (ks:List Str) (ts:List ar) (fs:List aq),vs=[.ref x]→aH C H x ks ts fs→au ks ts fs→(∀ H',Same H H'→Q (.str (wI ks ts fs).shown) H')→spBToldI C vs H Q
def oZ(C:Addr):Sp:=fun vs H Q _=>spBToldI C vs H Q
theorem t5{C f1 f2 f3:Addr}{fd1 fd2 fd3:FuncData}(F:am K mg "_law_book_told" cw ["_law_signs"])(Z:Bl mg)(T:ClS K C)
  (m_kinds:fQ K C "kinds" f1) (G_kinds:aZ P w K mg base CX0 1 f1 fd1 ["self"] (ij C)) (b_kinds:aU K fd1 ["self"] [])
  (m_ties:fQ K C "ties" f2) (G_ties:aZ P w K mg base CX0 1 f2 fd2 ["self"] (ii C)) (b_ties:aU K fd2 ["self"] [])
  (m_functions:fQ K C "functions" f3) (G_functions:aZ P w K mg base CX0 1 f3 fd3 ["self"] (ik C)) (b_functions:aU K fd3 ["self"] []) :
  Def P w K mg base "_law_book_told" 2 ["_law_signs"] (oZ C):=by
 have SC:=zdb
 refine F.mk' (k:=1) zdb (fun vs H Q E h=>?_) (fun f cdv A outer s H vs Q E hr h=>?_)
 ·obtain⟨x,ks,ts,fs,rfl,_⟩:=h
  rfl
 ·obtain⟨x,ks,ts,fs,rfl,hS,ok,q⟩:=h
  obtain⟨p1,p2,p3,p4⟩:=(uI ok).fits (by decide) (by decide)
  refine'⟨_,?derivation,?_⟩
  case derivation=>(walk_at "S1")
  obtain⟨dx,kt,tt,ft,tv,fv,x2,_,_,_,_,_⟩:=id hS
  refine⟨_,rfl,x,dx,_,rfl,x2,iQ,x,ks,ts,fs,rfl,hS,fun l1 hl1=>?_⟩
  have s3:=ac hl1 (.lst (ks.map V.str))
  refine⟨_,rfl,x,dx,_,rfl,s3 _ _ x2,kG,x,ks,ts,fs,rfl,hS.same s3,fun l2 tv' hl2 r2=>?_⟩
  have s4:=ac hl2 (.lst tv')
  refine⟨_,rfl,x,dx,_,rfl,s4 _ _ (s3 _ _ x2),cE,x,ks,ts,fs,rfl,(hS.same s3).same s4,fun l3 fv' hl3 r3=>?_⟩
  have s5:=ac hl3 (.lst fv')
  refine⟨by show 3≤sizeLine; decide,fun t ht=>?_⟩
  have s6:=ac ht (.tup [.ref l1,.ref l2,.ref l3])
  have e1:=s6 _ _ (s5 _ _ (s4 _ _ (aa (H:=H) (a:=l1) (o:=.lst (ks.map V.str)))))
  have e2:=s6 _ _ (s5 _ _ (aa (H:=upd H l1 (.lst (ks.map V.str))) (a:=l2) (o:=.lst tv')))
  have e3:=s6 _ _ (aa (H:=upd (upd H l1 (.lst (ks.map V.str))) l2 (.lst tv')) (a:=l3) (o:=.lst fv'))
  have s26:=((s3.trans s4).trans s5).trans s6
  have r2':=((r2.same s4).same s5).same s6
  have r3':=(r3.same s5).same s6
  refine⟨t,wI ks ts fs,rfl,RdV.toV (R:=Any) (.tup trivial aa (.cons (.lst trivial e1 (RdA.strs ks)) (.cons (.lst trivial e2 r2') (.cons (.lst trivial e3 r3') .nil)))),p1,p2,p3,p4,q _ s26⟩
abbrev ee:Stmt:=top 66
theorem zdc:ak ["_law_text","_law_book_here","_law_sayings","_law_ties","_law_functions","_law_told"] ["_law_text","_law_book_here","_law_sayings"] (af ee):=by walk_at "F"
inductive spRightI(C:Addr)(CX:Addr)(vs:List V)(H:Hp)(Q:VK):Prop where
 | mk:∀ (x b a:Addr) (sv:List V) (ks:List Str) (ts:List ar) (fs:List aq) (l:List Tr),vs=[.ref x,.ref b,.ref a]→cf C CX H x ks ts fs l→RdV Any H (.ref b) (gm ks ts fs)→au ks ts fs→H a=some (.lst sv)→aQ H sv l→dF ks ts fs l→l.length≤6→(∀ H',Same H H'→Q (.bl true) H')→spRightI C CX vs H Q
def oS(C CX:Addr):Sp:=fun vs H Q _=>spRightI C CX vs H Q
theorem tX{C CX f4 f5:Addr}{fd4 fd5:FuncData}(F:am K mg "_law_right" ee ["_law_text","_law_book_here","_law_sayings"])(Z:Bl mg)(TX:ClX K CX)
  (m_signs:fQ K CX "signs" f4) (G_signs:aZ P w K mg base CX0 1 f4 fd4 ["self"] (iC C CX)) (b_signs:aU K fd4 ["self"] [])
  (m_sayings:fQ K CX "sayings" f5) (G_sayings:aZ P w K mg base CX0 1 f5 fd5 ["self"] (j7 C CX)) (b_sayings:aU K fd5 ["self"] [])
  (D_law_book_told:Def P w K mg base "_law_book_told" 2 ["_law_signs"] (oZ C)) (D_write_text:Def P w K mg base "write_text" 32 ["text"] (oQ C CX)) (D_law_rows:Def P w K mg base "_law_rows" 15 ["_law_book_here","_law_sayings"] j9) :
  Def P w K mg base "_law_right" 33 ["_law_text","_law_book_here","_law_sayings"] (oS C CX):=by
 have SC:=zdc
 refine F.mk' (k:=32) zdc (fun vs H Q E h=>?_) (fun f cdv A outer s H vs Q E hr h=>?_)
 ·obtain⟨x,b,a,sv,ks,ts,fs,l,rfl,_⟩:=h
  rfl
 ·obtain⟨x,b,a,sv,ks,ts,fs,l,rfl,hx,hb,ok,ha,rs,hs,hl,q⟩:=h
  refine'⟨_,?derivation,?_⟩
  case derivation=>(have:=aj 13 364 79 96; have:=aj 13 365 106 123; have:=aj 13 366 50 67; have:=aT 364 4 97 2 ["_law_name","_law_places","_law_text","_law_book_here","_law_sayings","_law_ties","_law_functions","_law_told"]; have:=aT 365 4 124 3 ["_law_name","_law_places","_law_kind","_law_text","_law_book_here","_law_sayings","_law_ties","_law_functions","_law_told"]; walk_at "S2")
  obtain⟨p1,p2,p3,p4⟩:=(uI ok).fits (by decide) (by decide)
  obtain⟨v1,v2,v3,v4⟩:=(hs.shows hl).shows (.lst (on l)) (by decide) (by decide)
  obtain⟨k,t,f',tv,fv,hb0,_,_,hk,_,ht,rt,_,hf,rf⟩:=kP hb
  have ok8:=ok.sl
  have tl:tv.length=ts.length:=by rw [RdA.length rt,List.length_map]
  have fl:fv.length=fs.length:=by rw [RdA.length rf,List.length_map]
  refine⟨_,rfl,b,_,1,_,rfl,rfl,SqT.of hb0,rfl,t,rfl,⟨_,SqL.of ht⟩,fun cl C1 ex s0 Hc=>?_⟩
  refine mL (K:=K) tv.length (fun i ys H2=>Same H H2∧RdA Any H2 ys ((ts.take i).map dG)) (fun i u v=>∃ t pp,ts[i]? = some t∧u=.str t.nm∧v=.ref pp∧H pp=some (.lst (t.ps.map V.str))) ⟨Same.refl _,.nil⟩ (Nat.le_trans (show tv.length≤8 by omega) (by decide))
   (fun i ys H2 hi _ h=>?_) (fun ys H2 _ h=>aO (SqL.of (h.1 _ _ ht))) ?_ ?_
  ·obtain⟨q1,q2⟩:=bm (K:=K) (SqL.of (h.1 _ _ ht)) hi
   refine⟨q1,fun y H' yy=>?_⟩
   obtain⟨rfl,hy⟩:=q2 y H' yy
   obtain⟨z,py,pp,hz,rfl,hpy,_,hpp⟩:=oI rt hy
   exact⟨rfl,py,_,_,rfl,SqT.of (h.1 _ _ hpy),z,pp,hz,rfl,rfl,hpp⟩
  ·rintro i u v ys H2 hi ⟨z,pp,hz,rfl,rfl,hpp⟩ yl ⟨s2,r2⟩
   refine⟨_,rfl,_,rfl,pp,_,rfl,.inl ⟨SqL.of (s2 _ _ hpp),fun p hp=>⟨(by show 2≤sizeLine; decide),fun p2 hp2=>?_⟩⟩⟩
   have sp:=ac hp (.tup (z.ps.map V.str))
   have sq:=ac hp2 (.tup [.str z.nm,.ref p])
   refine⟨(s2.trans sp).trans sq,?_⟩
   rw [List.take_succ,hz,List.map_append]
   exact((r2.same sp).same sq).snoc (.tup trivial aa (.cons (.str _) (.cons (.tup trivial (sq _ _ aa) (RdA.strs _)) .nil)))
  rintro ys1 H1 yl1 ⟨s1,r1⟩ TT hTT
  rw [tl,List.take_length] at r1
  have sT:=s1.trans (ac hTT (.lst ys1))
  have eT:upd H1 TT (.lst ys1) TT=some (.lst ys1):=aa
  have rT:=r1.same (ac hTT (.lst ys1))
  generalize upd H1 TT (.lst ys1)=HT at sT eT rT
  refine⟨_,rfl,b,_,2,_,rfl,rfl,SqT.of (sT _ _ hb0),rfl,f',rfl,⟨_,SqL.of (sT _ _ hf)⟩,fun cl C1 ex s0 Hc=>?_⟩
  refine mK (K:=K) fv.length (fun i ys H2=>Same HT H2∧RdA Any H2 ys ((fs.take i).map dO)) (fun i u v w=>∃ t pp,fs[i]? = some t∧u=.str t.nm∧v=.ref pp∧w=.str t.kd∧H pp=some (.lst (t.ps.map V.str))) ⟨Same.refl _,.nil⟩ (Nat.le_trans (show fv.length≤8 by omega) (by decide))
   (fun i ys H2 hi _ h=>?_) (fun ys H2 _ h=>aO (SqL.of (h.1 _ _ (sT _ _ hf)))) ?_ ?_
  ·obtain⟨q1,q2⟩:=bm (K:=K) (SqL.of (h.1 _ _ (sT _ _ hf))) hi
   refine⟨q1,fun y H' yy=>?_⟩
   obtain⟨rfl,hy⟩:=q2 y H' yy
   obtain⟨z,py,pp,hz,rfl,hpy,_,hpp⟩:=pw rf hy
   exact⟨rfl,py,_,_,_,rfl,SqT.of (h.1 _ _ (sT _ _ hpy)),z,pp,hz,rfl,rfl,rfl,hpp⟩
  ·rintro i u v w' ys H2 hi ⟨z,pp,hz,rfl,rfl,rfl,hpp⟩ yl ⟨s2,r2⟩
   refine⟨_,rfl,_,rfl,pp,_,rfl,.inl ⟨SqL.of (s2 _ _ (sT _ _ hpp)),fun p hp=>⟨_,rfl,(by show 3≤sizeLine; decide),fun p2 hp2=>?_⟩⟩⟩
   have sp:=ac hp (.tup (z.ps.map V.str))
   have sq:=ac hp2 (.tup [.str z.nm,.ref p,.str z.kd])
   refine⟨(s2.trans sp).trans sq,?_⟩
   rw [List.take_succ,hz,List.map_append]
   exact((r2.same sp).same sq).snoc (.tup trivial aa (.cons (.str _) (.cons (.tup trivial (sq _ _ aa) (RdA.strs _)) (.cons (.str _) .nil))))
  rintro ys2 H2 yl2 ⟨s2,r2⟩ FF hFF
  rw [fl,List.take_length] at r2
  have sF0:=s2.trans (ac hFF (.lst ys2))
  have sF:=sT.trans sF0
  have eF:upd H2 FF (.lst ys2) FF=some (.lst ys2):=aa
  have rF:=r2.same (ac hFF (.lst ys2))
  have eT2:=sF0 _ _ eT
  have rT2:=rT.same sF0
  generalize upd H2 FF (.lst ys2)=HF at sF eF rF eT2 rT2
  have txt:∀ {G:Hp},Same H G→∃ dx g kt,G x=some (.ins CX dx (fx2 g kt)):=fun s=>by
   obtain⟨dx,g,kt,_,z,_⟩:=hx.same s
   exact⟨dx,g,kt,z⟩
  obtain⟨dx,g0,kt,x1⟩:=txt sF
  refine⟨_,rfl,x,dx,_,rfl,x1,iX (by decide +kernel) (by decide +kernel),x,ks,ts,fs,l,rfl,hx.same sF,fun g hg=>?_⟩
  refine⟨g,ks,ts,fs,rfl,hg,ok,fun H6 s6=>?_⟩
  have s06:=sF.trans s6
  refine⟨_,rfl,b,_,0,_,rfl,rfl,SqT.of (s06 _ _ hb0),rfl,_,rfl,_,rfl,(by show 3≤sizeLine; decide),fun t7 ht7=>?_⟩
  have s7:=ac ht7 (.tup [.ref k,.ref TT,.ref FF])
  refine⟨t7,wI ks ts fs,rfl,RdV.toV (R:=Any) (.tup trivial aa (.cons (.lst trivial (s7 _ _ (s06 _ _ hk)) (RdA.strs ks)) (.cons (.lst trivial (s7 _ _ (s6 _ _ eT2)) ((rT2.same s6).same s7)) (.cons (.lst trivial (s7 _ _ (s6 _ _ eF)) ((rF.same s6).same s7)) .nil)))),p1,p2,p3,p4,rfl,_,rfl,mD rfl ?_⟩
  have s07:=s06.trans s7
  generalize upd H6 t7 (.tup [.ref k,.ref TT,.ref FF])=H7 at s07
  have say:∀ {G:Hp},Same H G→eK G (.ref a) (.list (dTA l)):=fun s=>.lst (s _ _ ha) (dY (ap (Few.Same.tups s) rs))
  obtain⟨dx,g0,kt,x1⟩:=txt s07
  refine⟨_,rfl,x,dx,_,rfl,x1,iX (by decide +kernel) (by decide +kernel),x,ks,ts,fs,l,rfl,hx.same s07,fun a2 ys ha2 r2=>?_⟩
  have s8:=ac ha2 (.lst ys)
  refine⟨_,rfl,a2,_,rfl,.lst aa (dY (ap (Few.Same.tups s8) r2)),v1,v2,v3,v4,_,rfl,a,_,rfl,say (s07.trans s8),v1,v2,v3,v4,rfl,_,rfl,mD rfl ?_⟩
  refine⟨_,rfl,.inl ⟨rfl,_,SqL.of aa⟩,a2,_,rfl,rfl,aa,?_⟩
  have s09:Same H (upd (upd H7 a2 (.lst ys)) a2 (.lst [])):=gg (s07.free ha2) _ (s07.trans s8)
  generalize upd (upd H7 a2 (.lst ys)) a2 (.lst [])=H9 at s09
  obtain⟨dx,g0,kt,x1⟩:=txt s09
  refine⟨_,rfl,x,dx,_,rfl,x1,iX (by decide +kernel) (by decide +kernel),x,ks,ts,fs,l,rfl,hx.same s09,fun a3 ys3 ha3 r3=>?_⟩
  have s10:=ac ha3 (.lst ys3)
  have s0A:=s09.trans s10
  refine⟨a3,_,rfl,.lst aa (dY (ap (Few.Same.tups s10) r3)),v1,v2,v3,v4,_,rfl,a,_,rfl,say s0A,v1,v2,v3,v4,rfl,_,rfl,ifT (decide_eq_true rfl) ?_⟩
  have tl:=dZ ok hs
  refine⟨_,rfl,x,ks,ts,fs,l,rfl,hx.same s0A,ok,hs,by omega,by omega,fun HB sB=>?_⟩
  have s0B:=s0A.trans sB
  refine⟨_,rfl,_,rfl,b,a,sv,ks,ts,fs,l,rfl,hb.same s0B,ok,s0B _ _ ha,ap (Few.Same.tups s0B) rs,hs,hl,fun HC sC=>⟨rfl,?_⟩⟩
  rw [decide_eq_true rfl]
  exact q _ (s0B.trans sC)
end
theorem aQ.take{H:Hp}:∀ {v:List V} {t:List Tr} (n:Nat),aQ H v t→aQ H (v.take n) (t.take n)
 | _,_,0,_=>by rw [List.take_zero,List.take_zero]; exact .nil
 | _,_,_+1,.nil=>.nil
 | _,_,n+1,.cons h r=>.cons h (aQ.take n r)
theorem dF.take{ks:List Str}{ts:List ar}{fs:List aq}{l:List Tr}(h:dF ks ts fs l)(n:Nat):dF ks ts fs (l.take n):=fun t ht=>h t (List.mem_of_mem_take ht)
section
abbrev cZ:Stmt:=top 67
theorem zdd:ak ["_law_book_here","_law_sayings","_law_made"] ["_law_book_here","_law_sayings"] (af cZ):=by walk_at "F"
inductive spLongI(vs:List V)(H:Hp)(Q:VK):Prop where
 | mk:∀ (b a:Addr) (sv:List V) (ks:List Str) (ts:List ar) (fs:List aq) (l:List Tr),vs=[.ref b,.ref a]→RdV Any H (.ref b) (gm ks ts fs)→au ks ts fs→H a=some (.lst sv)→aQ H sv l→dF ks ts fs l→l.length≤6→(∀ m sv' l' H',H m=none→H' m=some (.lst sv')→aQ H' sv' l'→dF ks ts fs l'→l'.length≤6→Same H H'→Q (.ref m) H')→spLongI vs H Q
def rX:Sp:=fun vs H Q _=>spLongI vs H Q
theorem vU(F:am K mg "_law_longest" cZ ["_law_book_here","_law_sayings"])(Z:Bl mg)(D_law_rows:Def P w K mg base "_law_rows" 15 ["_law_book_here","_law_sayings"] j9):Def P w K mg base "_law_longest" 16 ["_law_book_here","_law_sayings"] rX:=by
 have SC:=zdd
 refine F.mk' (k:=15) zdd (fun vs H Q E h=>?_) (fun f cdv A outer s H vs Q E hr h=>?_)
 ·obtain⟨b,a,sv,ks,ts,fs,l,rfl,_⟩:=h
  rfl
 ·obtain⟨b,a,sv,ks,ts,fs,l,rfl,hb,ok,ha,rs,hs,hl,q⟩:=h
  refine'⟨_,?derivation,?_⟩
  case derivation=>(have:=aj 7 375 10 51; walk_at "S2")
  have sl:sv.length=l.length:=aQ.length rs
  refine⟨_,rfl,a,sv,rfl,.inl (SqL.of ha),fun R hR=>?_⟩
  have sR:=ac hR (.lst sv)
  refine⟨fun j σ H2=>j≤sv.length∧σ=[some (.ref b),some (.ref a),some (.ref R)]∧Same H H2∧H2 R=some (.lst (sv.take j)),⟨sv.length,Nat.le_refl _,rfl,sR,by rw [List.take_length]; exact aa⟩,?_⟩
  rintro j σ H2 ⟨hj,rfl,s2,e2⟩
  have tl:=dZ ok (hs.take j)
  have lj:(l.take j).length≤l.length:=by rw [List.length_take]; omega
  have t2:=aQ.take j (ap (Few.Same.tups s2) rs)
  refine⟨_,rfl,_,rfl,b,R,_,ks,ts,fs,l.take j,rfl,hb.same s2,ok,e2,t2,hs.take j,by omega,fun H3 s3=>?_⟩
  refine⟨_,rfl,Nat.le_trans (show _≤200000 by omega) (by decide),_,_,rfl,rfl,_,rfl,?_⟩
  by_cases hc:(1900:Int)<((bu (aJ ks ts fs (l.take j))).length:Nat)
  ·refine ifT (decide_eq_true hc) ?_
   obtain⟨i,rfl⟩:∃ i,j=i+1:=by
    cases j with
    | zero=>have:=m6 ok; rw [List.take_zero] at hc; omega
    | succ i=>exact⟨i,rfl⟩
   have e3:=s3 _ _ e2
   have hlt:i<sv.length:=by omega
   refine⟨fun σ H4=>σ=[some (.ref b),some (.ref a),some (.ref R)]∧Same H H4∧H4 R=some (.lst (sv.take i)),fun σ' H' h=>⟨i,Nat.lt_succ_self i,by omega,h⟩,?_⟩
   refine⟨_,rfl,.inl ⟨rfl,_,SqL.of e3⟩,R,_,sv[i],rfl,rfl,e3,?_,rfl,gg hR _ (s2.trans s3),?_⟩
   ·rw [List.length_take,Nat.min_eq_left (by omega),Nat.add_sub_cancel,List.getElem?_take,if_pos (Nat.lt_succ_self i)]
    simp [hlt]
   ·rw [aa,dq (x:=sv[i]) (by simp [hlt]),List.dropLast_concat]
  ·exact ifF (by simpa using hc) ⟨_,rfl,q R _ _ _ hR (s3 _ _ e2) (ap (Few.Same.tups s3) t2) (hs.take j) (by omega) (s2.trans s3)⟩
end
mutual
theorem jA{R:Addr→Prop}{H:Hp}:∀ {v:V} {d:PyData},RdV R H v d→RdV (fun a=>R a∧∃ o,H a=some o) H v d
 | _,_,.non=>.non
 | _,_,.bl b=>.bl b
 | _,_,.int i=>.int i
 | _,_,.str x=>.str x
 | _,_,.lst r e z=>.lst ⟨r,_,e⟩ e (gJ z)
 | _,_,.tup r e z=>.tup ⟨r,_,e⟩ e (gJ z)
theorem gJ{R:Addr→Prop}{H:Hp}:∀ {xs:List V} {ds:List PyData},RdA R H xs ds→RdA (fun a=>R a∧∃ o,H a=some o) H xs ds
 | _,_,.nil=>.nil
 | _,_,.cons a b=>.cons (jA a) (gJ b)
end
theorem cf.cl{R:Addr→Prop}{C CX:Addr}{H H':Hp}{x:Addr}{ks:List Str}{ts:List ar}{fs:List aq}{l:List Tr}(h:cf C CX H x ks ts fs l)(c:Cl R H H'):cf C CX H' x ks ts fs l:=by
 obtain⟨dx,g,kt,ys,h1,h2,h3,h4⟩:=h
 obtain⟨dg,k1,t1,f1,tv,fv,z,_⟩:=id h2
 exact⟨dx,g,kt,ys,c.ins h1,h2.keep (fun o e=>by rw [z] at e; cases e; exact c.ins z) c.tups,c.tups _ _ h3,ap c.tups h4⟩
theorem Em.same{R:Addr→Prop}{H H':Hp}(s:Same H H'){n:Nat}{v:V}(h:Em R H n v):Em R H' n v:=h.mono (fun _ z=>z) (Few.Same.tups s) fun a o _ e=>s a o e
structure uQ(C CX:Addr)(H:Hp)(x b m:Addr)(sv:List V)(ks:List Str)(ts:List ar)(fs:List aq)(l:List Tr):Prop where
 tx:cf C CX H x ks ts fs l
 bk:RdV Any H (.ref b) (gm ks ts fs)
 ok:au ks ts fs
 hm:H m=some (.lst sv)
 rs:aQ H sv l
 hs:dF ks ts fs l
 hl:l.length≤6
theorem uQ.same{C CX:Addr}{H H':Hp}{x b m:Addr}{sv:List V}{ks:List Str}{ts:List ar}{fs:List aq}{l:List Tr}(h:uQ C CX H x b m sv ks ts fs l)(s:Same H H'):uQ C CX H' x b m sv ks ts fs l:=
 ⟨h.tx.same s,h.bk.same s,h.ok,s _ _ h.hm,ap (Few.Same.tups s) h.rs,h.hs,h.hl⟩
def wX(C CX:Addr)(H:Hp)(e:V):Prop:=e=.non∨∃ (a x b m:Addr) (sv:List V) (ks:List Str) (ts:List ar) (fs:List aq) (l:List Tr),e=.ref a∧H a=some (.tup [.ref x,.ref b,.ref m])∧uQ C CX H x b m sv ks ts fs l
theorem wX.same{C CX:Addr}{H H':Hp}{e:V}(h:wX C CX H e)(s:Same H H'):wX C CX H' e:=by
 rcases h with h | ⟨a,x,b,m,sv,ks,ts,fs,l,h1,h2,h3⟩
 ·exact .inl h
 ·exact .inr ⟨a,x,b,m,sv,ks,ts,fs,l,h1,s _ _ h2,h3.same s⟩
section
abbrev f9:Stmt:=top 68
theorem zde:ak ["_law_script","_law_elder","_law_number","_law_pot_here","_law_book_here","_law_sayings","_law_handed","_law_before","_law_text"] ["_law_script"] (af f9):=by walk_at "F"
inductive spLawI(K:PySem.W.Frag)(vs:List V)(H:Hp)(Q:VK):Prop where
 | mk:∀ (a:Addr) (ns:List Int),vs=[.ref a]→SqL K H a (ns.map V.int)→ns.length≤63→(∀ H',Q (.bl true) H')→spLawI K vs H Q
def oX(K:PySem.W.Frag):Sp:=fun vs H Q _=>spLawI K vs H Q
theorem yu{C CX fI fX fL:Addr}{fdI fdX fdL:FuncData}(F:Fun K "law" "law" f9 fL fdL)(Z:Bl mg)(D_law_cell:Def P w K mg base "_law_cell" 1 ["_law_script","_law_k"] (rZ (K:=K)))(D_law_pot:Def P w K mg base "_law_pot" 1 ["_law_cell_here"] xg)(D_law_draw:Def P w K mg base "_law_draw" 1 ["_law_pot_here","_law_many"] ca)
  (D_law_book:Def P w K mg base "_law_book" 3 ["_law_pot_here","_law_most_kinds","_law_most_signs"] sd) (D_law_saying:Def P w K mg base "_law_saying" 12 ["_law_pot_here","_law_book_here","_law_deep"] lq)
  (D_law_longest:Def P w K mg base "_law_longest" 16 ["_law_book_here","_law_sayings"] rX) (D_law_as:Def P w K mg base "_law_as" (8+2) ["_law_pot_here","_law_thing"] (si 8)) (D_law_empty:Def P w K mg base "_law_empty" (8+2) ["_law_thing"] (f8 8))
  (D_law_right:Def P w K mg base "_law_right" 33 ["_law_text","_law_book_here","_law_sayings"] (oS C CX)) (D_read_text:Def P w K mg base "read_text" 34 ["text"] (oU C CX)) (D_law_rows:Def P w K mg base "_law_rows" 15 ["_law_book_here","_law_sayings"] j9)
  (M_Signs:Mk K C fI) (G_Signs:aZ P w K mg base CX0 5 fI fdI ["self","kinds","ties","functions"] (ni C)) (m_Signs:mg "Signs"=some (.ref C)) (b_Signs:aU K fdI ["self","kinds","ties","functions"] [])
  (M_Text:Mk K CX fX) (G_Text:aZ P w K mg base CX0 32 fX fdX ["self","signs","sayings"] (fe C CX)) (m_Text:mg "Text"=some (.ref CX)) (b_Text:aU K fdX ["self","signs","sayings"] []) :
  aZ P w K mg base CX0 35 fL fdL ["_law_script"] (oX K):=by
 have SC:=zde
 refine F.ok (k:=34) zde (fun vs H Q E h=>?_) (fun cdv A outer s H vs Q E hr h=>?_)
 ·obtain⟨a,ns,rfl,_⟩:=h
  rfl
 ·obtain⟨aS,ns,rfl,hS,hns,q⟩:=h
  refine'⟨_,?derivation,?_⟩
  case derivation=>(have:=aj 18 380 23 69; have:=aj 13 386 31 48; have:=aj 13 386 50 67; have:=aj 13 386 69 86; have:=aj 13 392 54 67; have:=aj 13 392 69 82; have:=aj 13 392 84 97; have:=aT 383 52 148 1 ["_law_k","_law_script","_law_elder","_law_number","_law_pot_here","_law_book_here","_law_sayings","_law_handed","_law_before","_law_text"]; walk_at "S2")
  refine⟨_,rfl,aS,ns,0,rfl,hS,fun n0=>?_⟩
  refine⟨by show 1≤sizeLine; decide,fun l1 hl1=>?_⟩
  have s1:=ac hl1 (.lst [.int n0])
  refine⟨_,rfl,_,rfl,_,rfl,aS,_,rfl,s1.seq hS,fun l2 hl2=>?_⟩
  have s2:=ac hl2 (.lst (gl (ns.map V.int) (some 1) (some 8)))
  have cl:=hU (ns.map V.int) (some 1) (some 8)
  rw [List.length_map] at cl
  refine⟨l1,l2,_,_,rfl,rfl,s2 _ _ aa,aa,Nat.le_trans (show 1+(gl (ns.map V.int) (some 1) (some 8)).length≤100 by omega) (by decide),fun L hL=>?_⟩
  generalize hxs:[V.int n0]++gl (ns.map V.int) (some 1) (some 8)=xs
  have allI:∀ y∈xs,∃ z,y=V.int z:=fun y hy=>by
   rw [← hxs] at hy
   rcases List.mem_append.mp hy with hy | hy
   ·exact⟨n0,List.mem_singleton.mp hy⟩
   ·obtain⟨z,_,rfl⟩:=List.mem_map.mp (wm hy)
    exact⟨z,rfl⟩
  have hLx:(upd (upd (upd H l1 (.lst [.int n0])) l2 (.lst (gl (ns.map V.int) (some 1) (some 8)))) L (.lst xs)) L=some (.lst xs):=aa
  generalize (upd (upd (upd H l1 (.lst [.int n0])) l2 (.lst (gl (ns.map V.int) (some 1) (some 8)))) L (.lst xs))=HL at hLx
  refine⟨L,rfl,⟨_,SqL.of hLx⟩,dC (K:=K) (a:=L) (xs:=xs) (fun i σ H2=>∃ e v2 v3 v4 v5 v6 v7 v8,σ=[some (.ref aS),some e,v2,v3,v4,v5,v6,v7,v8]∧Same HL H2∧wX C CX H2 e)
   ⟨.non,_,_,_,_,_,_,_,rfl,Same.refl _,.inl rfl⟩ (fun i σ H2 _ ⟨_,_,_,_,_,_,_,_,_,z,_⟩=>SqL.of (z _ _ hLx)) ?_ ?_⟩
  case refine_2=>
   rintro σ H2 ⟨e,v2,v3,v4,v5,v6,v7,v8,rfl,_,_⟩
   exact q H2
  rintro i y σ H2 hi ⟨e,v2,v3,v4,v5,v6,v7,v8,rfl,sL,hel⟩
  obtain⟨n,rfl⟩:=allI y (List.mem_of_getElem? hi)
  refine⟨_,rfl,n,rfl,fun p H3 hp pot3 s3=>?_⟩
  refine⟨_,rfl,p,4,8,rfl,pot3,by decide,by decide,by decide,fun bv H4 ks ts fs rb ok _ _ W4=>?_⟩
  have np3:∀ a,H3 a=none→a≠p:=fun a e=>by rintro rfl; obtain⟨o,e2⟩:=pot3.some; rw [e] at e2; cases e2
  have rb4:RdV (fun a=>a≠p) H4 bv (gm ks ts fs):=rb.mono (fun a z=>np3 a z) fun _ _ _ e=>e
  obtain⟨b,_,rfl,_,_,_⟩:=id (RdV.tuple_inv rb4)
  refine⟨_,rfl,_,rfl,p,7,rfl,W4.pot,by decide,by decide,fun r H5 r0 r1 p5 s5=>?_⟩
  have w5:=(av.refl W4.pot).mk1 p5 s5
  refine⟨r,rfl,by omega,by omega,fun cl C1 ex s0 Hc=>?_⟩
  refine aN r.toNat (fun i ys H6=>av p H4 H6∧∃ l,aQ H6 ys l∧dF ks ts fs l∧l.length=i) (fun _ _=>True) ⟨w5,[],.nil,fun _ z=>(nomatch z),rfl⟩ (Nat.le_trans (show r.toNat≤7 by omega) (by decide))
   (fun i ys H6 hi _ _=>⟨(kM hi).1,fun x H' y=>⟨((kM hi).2 x H' y).1,trivial⟩⟩) (fun ys H6 _ _=>lg) ?_ ?_
  ·rintro i y ys H6 hi-yl ⟨w6,l,t6,hs6,rfl⟩
   refine⟨_,rfl,_,rfl,p,b,ks,ts,fs,rfl,w6.pot,RdV.went rb4 w6.same,ok,fun v H7 t tp sy ft w7=>⟨w6.trans w7,l++[t],aQ.snoc (ap (bV w6.pot w7.same) t6) tp,?_,by rw [List.length_append]; rfl⟩⟩
   intro z hz
   rcases List.mem_append.mp hz with hz | hz
   ·exact hs6 z hz
   ·rw [List.mem_singleton.mp hz]
    exact⟨sy,ft⟩
  rintro ys H6 yl ⟨w6,l0,t6,hs6,l6⟩ D hD
  have wD:=w6.new hD (.lst ys)
  have eD:upd H6 D (.lst ys) D=some (.lst ys):=aa
  have tD:=ap (Few.Same.tups (ac hD (.lst ys))) t6
  generalize upd H6 D (.lst ys)=H7 at wD eD tD
  refine⟨b,D,ys,ks,ts,fs,l0,rfl,vg (RdV.went rb4 wD.same),ok,eD,tD,hs6,by omega,fun m sv l H8 hm em rs hs hl s8=>?_⟩
  have w48:av p H4 H8:=⟨wD.pot.keep s8,wD.same.same s8⟩
  have w38:=W4.trans w48
  have nm:m≠p:=np3 _ (W4.none (wD.none hm))
  have rb8:=jA (RdV.went rb4 w48.same)
  have fit:=hs.shows hl
  have tl:=dZ ok hs
  refine⟨_,rfl,_,rfl,p,.ref m,.node l,rfl,w48.pot,.node (.inl em) (fY rs),fit.dp,Nat.le_trans fit.wt (by decide),fun u H9 mu eu w9=>?_⟩
  obtain⟨du,ru,lu⟩:=pi mu
  obtain⟨v1,v2,v3,v4⟩:=fit.shows lu (by decide) (by decide)
  obtain⟨pu,xu,rfl,hu,hxu⟩:∃ a xs,u=.ref a∧LT H9 a xs∧bE H9 xs l:=by
   cases mu with
   | node h r=>exact⟨_,_,rfl,h,r⟩
  refine⟨_,rfl,pu,du,rfl,ru,v1,v2,v3,v4,?_⟩
  have rb9:RdV (fun a=>a≠p∧∃ o,H8 a=some o) H9 (.ref b) (gm ks ts fs):=rb8.mono (fun _ z=>z) fun a o z e=>w9.same a o z.1 e
  obtain⟨kA,tA,fA,tv,fv,b1,_,_,k1,_,t1,t2,_,f1,f2⟩:=kP rb9
  refine⟨_,rfl,b,_,_,_,rfl,rfl,SqT.of b1,rfl,_,rfl,b,_,_,_,rfl,rfl,SqT.of b1,rfl,_,rfl,b,_,_,_,rfl,rfl,SqT.of b1,rfl,fun g dg hg hdg ng=>?_⟩
  have s10:=dw (CB:=C) hg hdg ng
  obtain⟨ab,rfl,sab⟩:=gs (t2.same s10)
  obtain⟨cd,rfl,scd⟩:=gP (f2.same s10)
  refine⟨g,dg,kA,tA,fA,ab,cd,ks,ts,fs,rfl,aa,.inl (s10 _ _ k1),.inl (s10 _ _ t1),sab,.inl (s10 _ _ f1),scd,ok,fun H10 g10 x10=>⟨rfl,?_⟩⟩
  have s9:=dy hg s10 x10
  refine⟨_,rfl,fun x dx hx hdx nd=>?_⟩
  have s11:=dw (CB:=CX) hx hdx nd
  have gx:g≠x:=by
   obtain⟨_,_,_,_,_,_,z,_⟩:=g10
   rintro rfl
   rw [z] at hx; cases hx
  have s911:=s9.trans s11
  refine⟨x,dx,g,pu,xu,ks,ts,fs,l,rfl,aa,g10.same s11,ok,hu.same s911,bO s911 hxu,hs,by omega,gx,fun H12 t12 x12=>⟨rfl,?_⟩⟩
  have s912:=s9.trans (dy hx s11 x12)
  refine⟨_,rfl,pu,du,rfl,lI s912 ru,v1,v2,v3,v4,_,rfl,rfl,_,rfl,mD rfl ?_⟩
  refine⟨_,rfl,.ref pu,fun a=>H8 a=none,rfl,Em.same s912 eu,fun H13 c13=>?_⟩
  have out:∀ a o,a≠p→H8 a=some o→H13 a=some o:=fun a o n e=>c13.out (by rw [e]; exact fun z=>nomatch z) (s912 _ _ (w9.same a o n e))
  have x13:uQ C CX H13 x b m sv ks ts fs l:=⟨t12.cl c13,rb8.mono (fun _ _=>trivial) fun a o z e=>out a o z.1 e,ok,out m _ nm em,ap c13.tups (ap (Few.Same.tups s912) (ap (bV w48.pot w9.same) rs)),hs,hl⟩
  have s213:Same H2 H13:=fun a o e=>by
   have n:a≠p:=ae e hp
   exact out a o n (w38.same a o n (s3 a o e))
  refine⟨_,rfl,_,rfl,_,rfl,x,b,m,sv,ks,ts,fs,l,rfl,x13.tx,x13.bk,ok,x13.hm,x13.rs,hs,hl,fun H14 s14=>⟨true,rfl,bI ?_⟩⟩
  have x14:=x13.same s14
  refine⟨_,rfl,_,rfl,b,m,sv,ks,ts,fs,l,rfl,x14.bk,ok,x14.hm,x14.rs,hs,hl,fun H15 s15=>?_⟩
  have x15:=x14.same s15
  refine⟨ks,ts,fs,l,rfl,ok,hs,by omega,by omega,fun y H16 t16 s16=>?_⟩
  have x16:=x15.same s16
  refine⟨_,rfl,_,rfl,y,b,m,sv,ks,ts,fs,l,rfl,t16,x16.bk,ok,x16.hm,x16.rs,hs,hl,fun H17 s17=>⟨true,rfl,bI ?_⟩⟩
  have x17:=x16.same s17
  have s217:=s213.trans (((s14.trans s15).trans s16).trans s17)
  have el17:=hel.same s217
  dsimp only [oJ]
  refine il (fun σ' H'=>σ'=[some (.ref aS),some e,some (.int n),some (.ref p),some (.ref b),some (.ref m),some (.ref pu),some (.str du.shown),some (.ref x)]∧Same H17 H') ?_ (fun go=>?_)
  ·rintro σ' H18 ⟨rfl,s18⟩
   refine⟨_,rfl,_,rfl,_,rfl,by show 3≤sizeLine; decide,fun te hte=>⟨.ref te,_,_,_,_,_,_,_,rfl,(sL.trans (s217.trans s18)).trans (ac hte _),.inr ⟨te,x,b,m,sv,ks,ts,fs,l,rfl,aa,(x17.same s18).same (ac hte _)⟩⟩⟩
  ·refine⟨_,rfl,rfl,_,rfl,?_⟩
   rcases el17 with rfl | ⟨a,x',b',m',sv',ks',ts',fs',l',rfl,e1,e2⟩
   ·exact ifF (by simp) (ifF (by simp) (go _ _ ⟨rfl,Same.refl _⟩))
   ·exact ifT (by simp) ⟨_,rfl,a,_,0,_,rfl,rfl,SqT.of e1,rfl,_,rfl,a,_,1,_,rfl,rfl,SqT.of e1,rfl,_,rfl,a,_,2,_,rfl,rfl,SqT.of e1,rfl,x',b',m',sv',ks',ts',fs',l',rfl,e2.tx,e2.bk,e2.ok,e2.hm,e2.rs,e2.hs,e2.hl,fun H18 s18=>⟨true,rfl,bI (go _ _ ⟨rfl,s18⟩)⟩⟩
end
end Few
set_option maxHeartbeats 4000000
namespace FewE
open PySem L2 Few
theorem lu1{l:List Value}(h:l.length=1):∃ a,l=[a]:=by
 match l,h with
 | [a],_=>exact⟨a,rfl⟩
theorem lu2{l:List Value}(h:l.length=2):∃ a b,l=[a,b]:=by
 match l,h with
 | [a,b],_=>exact⟨a,b,rfl⟩
theorem lu3{l:List Value}(h:l.length=3):∃ a b c,l=[a,b,c]:=by
 match l,h with
 | [a,b,c],_=>exact⟨a,b,c,rfl⟩
theorem lu4{l:List Value}(h:l.length=4):∃ a b c d,l=[a,b,c,d]:=by
 match l,h with
 | [a,b,c,d],_=>exact⟨a,b,c,d,rfl⟩
theorem lu5{l:List Value}(h:l.length=5):∃ a b c d e,l=[a,b,c,d,e]:=by
 match l,h with
 | [a,b,c,d,e],_=>exact⟨a,b,c,d,e,rfl⟩
theorem funAt_mk{K:PySem.W.Frag}{h:Heap}{mg:Str→Option Value}{x:Str}{st:Stmt}{ps:List Str}{f:Addr}{oc kV dc pm cd ct:Value}{od an:Option Addr}{sl:Array (Option Value)}(X:K.In h)(G:h.Ns mainGlobals mg)
  (a:PySem.W.nsIn K mainGlobals x=some (some (.ref f))) (l:K.lookup f=some ⟨oc,od,.func (PySem.W.fnOf x x (cg st) (bK st) (af st) .none kV dc pm an cd ct),sl⟩) (c:PySem.W.codeIn K cd x=true) (k:PySem.W.keepIn K (.ref f)=true)
  (b:∀ (kV doc pm:Value) (an:Option Addr) (cdv ct:Value) (us:List Value),us.length=ps.length→bindArgs (PySem.W.fnOf x x (cg st) (bK st) (af st) .none kV doc pm an cdv ct) ⟨us,[]⟩=pure (ps.zip us)):am K mg x st ps:=
 ⟨f,_,iZ l c k,PySem.W.mg_of X G a,(iZ (st:=st) l c k).binds b⟩
def dm(K:PySem.W.Frag)(C:Addr)(x q:Str)(st:Stmt)(ps:List Str):Prop:=∃ (f:Addr) (fd:FuncData),Fun K x q st f fd∧aU K fd ps []∧PySem.W.findIn K (.ref C) x=some (some (.ref f))∧PySem.W.isFn K (.ref f)=true∧PySem.W.keepIn K (.ref f)=true
theorem methAt_mk{K:PySem.W.Frag}{x q:Str}{st:Stmt}{ps:List Str}{C f:Addr}{oc kV dc pm cd ct:Value}{od an:Option Addr}{sl:Array (Option Value)}
  (a:PySem.W.findIn K (.ref C) x=some (some (.ref f))) (i:PySem.W.isFn K (.ref f)=true) (l:K.lookup f=some ⟨oc,od,.func (PySem.W.fnOf x q (cg st) (bK st) (af st) .none kV dc pm an cd ct),sl⟩) (c:PySem.W.codeIn K cd q=true) (k:PySem.W.keepIn K (.ref f)=true)
  (b:∀ (kV doc pm:Value) (an:Option Addr) (cdv ct:Value) (us:List Value),us.length=ps.length→bindArgs (PySem.W.fnOf x q (cg st) (bK st) (af st) .none kV doc pm an cdv ct) ⟨us,[]⟩=pure (ps.zip us)):dm K C x q st ps:=
 ⟨f,_,iZ l c k,(iZ (st:=st) l c k).binds b,a,i,k⟩
theorem all_mk{l:PySem.W.OpenLaw}{w:World}{K:PySem.W.Frag}{h:Heap}{mg:Str→Option Value}{fa C CB CX CD wa sA:Addr}{f46:Addr}{oc46 kV46 dc46 pm46 cd46 ct46:Value}{od46 an46:Option Addr}{sl46:Array (Option Value)}{tL:Tok}{tI0:Tok}{tI1:Tok}{tI2:Tok}{tI3:Tok}{tI4:Tok}{tw0 tw1 tw2 tw3 tw4:Tok}{wd:Option Addr}{wn:Nat}{ws:Array (Option Value)}{ts0 ts1 ts2 ts3:Tok}{sn:Nat}{ss:Array (Option Value)}(X:K.In h)(G:h.Ns mainGlobals mg)(hfa:mg "law"=some (.ref fa))
  (F0:am K mg "_law_cell" fm ["_law_script","_law_k"])
  (F1:am K mg "_law_pot" gv ["_law_cell_here"])
  (F2:am K mg "_law_draw" fj ["_law_pot_here","_law_many"])
  (F3:am K mg "_law_unlike" dI ["_law_pot_here","_law_many","_law_menu"])
  (F4:am K mg "_law_words" d9 ["_law_pot_here","_law_some"])
  (F5:am K mg "_law_book" fo ["_law_pot_here","_law_most_kinds","_law_most_signs"])
  (F6:am K mg "_law_meant" eh ["_law_scope"])
  (F7:am K mg "_law_variable" cK ["_law_pot_here","_law_scope","_law_kind"])
  (F8:am K mg "_law_term" cM ["_law_pot_here","_law_book_here","_law_scope","_law_kind","_law_deep"])
  (F9:am K mg "_law_atom" fq ["_law_pot_here","_law_book_here","_law_scope","_law_deep"])
  (F10:am K mg "_law_saying_in" bq ["_law_pot_here","_law_book_here","_law_scope","_law_deep"])
  (F11:am K mg "_law_saying" dJ ["_law_pot_here","_law_book_here","_law_deep"])
  (F12:am K mg "_law_as" ei ["_law_pot_here","_law_thing"])
  (F13:am K mg "_law_written" bF ["_law_thing"])
  (F14:am K mg "_law_empty" cn ["_law_thing"])
  (F15:am K mg "_law_rows" fi ["_law_book_here","_law_sayings"])
  (F16:am K mg "_law_book_told" cw ["_law_signs"])
  (F17:am K mg "_law_right" ee ["_law_text","_law_book_here","_law_sayings"])
  (F18:am K mg "_law_longest" cZ ["_law_book_here","_law_sayings"])
  (F19:am K mg "is_list" gz ["thing"])
  (F20:am K mg "is_name" gw ["thing"])
  (F21:am K mg "check_apart" df ["names"])
  (F22:am K mg "checked_kinds" cy ["kinds"])
  (F23:am K mg "checked_kind" cN ["kinds","kind"])
  (F24:am K mg "checked_places" cb ["kinds","places"])
  (F25:am K mg "checked_sign_name" bB ["name"])
  (F26:am K mg "checked_tie" de ["kinds","tie"])
  (F27:am K mg "checked_function" bM ["kinds","function"])
  (F28:am K mg "check_many" dL ["things","many"])
  (F29:am K mg "word_and_things" bP ["thing","room"])
  (F30:am K mg "checked_row" bG ["table","things","places","scope","room"])
  (F31:am K mg "checked_term" bQ ["table","thing","scope","room"])
  (F32:am K mg "checked_equation" bh ["table","things","scope","room"])
  (F33:am K mg "checked_binding" aY ["table","word","things","scope","room"])
  (F34:am K mg "checked_saying" ba ["table","thing","scope","room"])
  (F35:am K mg "looked_over" cY ["signs","thing"])
  (F36:am K mg "write_saying" cJ ["signs","saying"])
  (F37:am K mg "written" dz ["thing"])
  (F38:am K mg "read_saying" cX ["signs","text"])
  (F39:am K mg "bracketed" be ["text"])
  (F40:am K mg "all_looked_over" bR ["signs","things"])
  (F41:am K mg "write_text" dH ["text"])
  (F42:am K mg "drafted_signs" cx ["draft"])
  (F43:am K mg "read_sign" d8 ["draft","word","things"])
  (F44:am K mg "read_row" fh ["draft","row"])
  (F45:am K mg "read_text" d7 ["text"])
  (a46:PySem.W.nsIn K mainGlobals "law"=some (some (.ref f46)))
  (l46:K.lookup f46=some ⟨oc46,od46,.func (PySem.W.fnOf "law" "law" (cg f9) (bK f9) (af f9) .none kV46 dc46 pm46 an46 cd46 ct46),sl46⟩)
  (c46:PySem.W.codeIn K cd46 "law"=true)
  (k46:PySem.W.keepIn K (.ref f46)=true)
  (aC:PySem.W.nsIn K mainGlobals "Signs"=some (some (.ref C)))
  (aCB:PySem.W.nsIn K mainGlobals "SignTable"=some (some (.ref CB)))
  (aCX:PySem.W.nsIn K mainGlobals "Text"=some (some (.ref CX)))
  (aCD:PySem.W.nsIn K mainGlobals "Draft"=some (some (.ref CD)))
  (M47:dm K C "__init__" "Signs.__init__" gA ["self","kinds","ties","functions"])
  (M48:dm K C "kinds" "Signs.kinds" km ["self"])
  (M49:dm K C "ties" "Signs.ties" nv ["self"])
  (M50:dm K C "functions" "Signs.functions" ej ["self"])
  (M51:dm K CB "__init__" "SignTable.__init__" bC ["self","signs"])
  (M52:dm K CX "__init__" "Text.__init__" cO ["self","signs","sayings"])
  (M53:dm K CX "signs" "Text.signs" en ["self"])
  (M54:dm K CX "sayings" "Text.sayings" dh ["self"])
  (M55:dm K CD "__init__" "Draft.__init__" cz ["self"])
  (pg:PySem.W.plainGet K C Str.empty=true)
  (hd:PySem.W.hasDictIn K C=true)
  (po:PySem.W.plainOver K C=true)
  (sa:PySem.W.findIn K (.ref C) "__setattr__"=some (some (.builtin "object.__setattr__")))
  (mk:PySem.W.makesIn K C=true)
  (kc:PySem.W.keepIn K (.ref C)=true)
  (n0:PySem.W.findIn K (.ref C) "kept_kinds"=some none)
  (n1:PySem.W.findIn K (.ref C) "kept_ties"=some none)
  (n2:PySem.W.findIn K (.ref C) "kept_functions"=some none)
  (pgB:PySem.W.plainGet K CB Str.empty=true)
  (hdB:PySem.W.hasDictIn K CB=true)
  (poB:PySem.W.plainOver K CB=true)
  (saB:PySem.W.findIn K (.ref CB) "__setattr__"=some (some (.builtin "object.__setattr__")))
  (mkB:PySem.W.makesIn K CB=true)
  (kcB:PySem.W.keepIn K (.ref CB)=true)
  (n0B:PySem.W.findIn K (.ref CB) "known_kinds"=some none)
  (n1B:PySem.W.findIn K (.ref CB) "tie_places"=some none)
  (n2B:PySem.W.findIn K (.ref CB) "function_places"=some none)
  (n3B:PySem.W.findIn K (.ref CB) "function_kinds"=some none)
  (pgX:PySem.W.plainGet K CX Str.empty=true)
  (hdX:PySem.W.hasDictIn K CX=true)
  (poX:PySem.W.plainOver K CX=true)
  (saX:PySem.W.findIn K (.ref CX) "__setattr__"=some (some (.builtin "object.__setattr__")))
  (mkX:PySem.W.makesIn K CX=true)
  (kcX:PySem.W.keepIn K (.ref CX)=true)
  (n0X:PySem.W.findIn K (.ref CX) "kept_signs"=some none)
  (n1X:PySem.W.findIn K (.ref CX) "kept_sayings"=some none)
  (pgD:PySem.W.plainGet K CD Str.empty=true)
  (hdD:PySem.W.hasDictIn K CD=true)
  (poD:PySem.W.plainOver K CD=true)
  (saD:PySem.W.findIn K (.ref CD) "__setattr__"=some (some (.builtin "object.__setattr__")))
  (mkD:PySem.W.makesIn K CD=true)
  (kcD:PySem.W.keepIn K (.ref CD)=true)
  (n0D:PySem.W.findIn K (.ref CD) "latest_sort"=some none)
  (n1D:PySem.W.findIn K (.ref CD) "read_kinds"=some none)
  (n2D:PySem.W.findIn K (.ref CD) "read_ties"=some none)
  (n3D:PySem.W.findIn K (.ref CD) "read_functions"=some none)
  (n4D:PySem.W.findIn K (.ref CD) "read_sayings"=some none)
  (z_len:PySem.W.nsIn K mainGlobals "len"=some none)
  (z_max:PySem.W.nsIn K mainGlobals "max"=some none)
  (z_abs:PySem.W.nsIn K mainGlobals "abs"=some none)
  (z_divmod:PySem.W.nsIn K mainGlobals "divmod"=some none)
  (z_list:PySem.W.nsIn K mainGlobals "list"=some none)
  (z_tuple:PySem.W.nsIn K mainGlobals "tuple"=some none)
  (z_range:PySem.W.nsIn K mainGlobals "range"=some none)
  (z_int:PySem.W.nsIn K mainGlobals "int"=some none)
  (z_str:PySem.W.nsIn K mainGlobals "str"=some none)
  (z_repr:PySem.W.nsIn K mainGlobals "repr"=some none)
  (z_isinstance:PySem.W.nsIn K mainGlobals "isinstance"=some none)
  (z_all:PySem.W.nsIn K mainGlobals "all"=some none)
  (z_set:PySem.W.nsIn K mainGlobals "set"=some none)
  (z_dict:PySem.W.nsIn K mainGlobals "dict"=some none)
  (z_zip:PySem.W.nsIn K mainGlobals "zip"=some none)
  (z_enumerate:PySem.W.nsIn K mainGlobals "enumerate"=some none)
  (gL:PySem.W.nsIn K mainGlobals "LETTERS"=some (some (.str (Str.ofString "abcdefghijklmnopqrstuvwxyz") tL)))
  (gI0:PySem.W.nsIn K mainGlobals "LONGEST_NAME"=some (some (.int 12 tI0)))
  (gI1:PySem.W.nsIn K mainGlobals "MOST_KINDS"=some (some (.int 4 tI1)))
  (gI2:PySem.W.nsIn K mainGlobals "MOST_SIGNS"=some (some (.int 8 tI2)))
  (gI3:PySem.W.nsIn K mainGlobals "MOST_PLACES"=some (some (.int 2 tI3)))
  (gI4:PySem.W.nsIn K mainGlobals "DEEPEST"=some (some (.int 64 tI4)))
  (gW:PySem.W.nsIn K mainGlobals "WORDS_OF_SAYINGS"=some (some (.ref wa)))
  (lW:K.lookup wa=some ⟨.type "tuple",wd,.seq #[.str (Str.ofString "all") tw0,.str (Str.ofString "some") tw1,.str (Str.ofString "not") tw2,.str (Str.ofString "and") tw3,.str (Str.ofString "or") tw4] wn,ws⟩)
  (gS:PySem.W.nsIn K mainGlobals "SORTS"=some (some (.ref sA)))
  (lS:K.lookup sA=some ⟨.type "tuple",none,.seq #[.str (Str.ofString "kind") ts0,.str (Str.ofString "tie") ts1,.str (Str.ofString "function") ts2,.str (Str.ofString "say") ts3] sn,ss⟩)
  : ∃ fd:FuncData,(∀ (s:Shared) (v:Value),BindsTo s fd ⟨[v],[]⟩ [("_law_script",v)])∧∀ base:Heap,K.In base→base.Ns mainGlobals mg→aZ l.prog w K mg base CX0 35 fa fd ["_law_script"] (oX K):=by
 have T:ClS K C:=⟨⟨pg,hd,po,sa⟩,n0,n1,n2⟩
 have TB:ClT K CB:=⟨⟨pgB,hdB,poB,saB⟩,n0B,n1B,n2B,n3B⟩
 have TX:ClX K CX:=⟨⟨pgX,hdX,poX,saX⟩,n0X,n1X⟩
 have TD:ClD K CD:=⟨⟨pgD,hdD,poD,saD⟩,n0D,n1D,n2D,n3D,n4D⟩
 have hsa:∀ H,SqT K H sA (sorts.map V.str):=fun H=>.inr ⟨_,_,_,lS,rfl,rfl,by show 4≤sizeLine; decide,.cons ⟨ts0,rfl⟩ (.cons ⟨ts1,rfl⟩ (.cons ⟨ts2,rfl⟩ (.cons ⟨ts3,rfl⟩ (.nil))))⟩
 have GD:∃ u,mg "DEEPEST"=some u∧az (.int 64) u:=⟨_,PySem.W.mg_of X G gI4,tI4,rfl⟩
 have Z:Bl mg:=⟨PySem.W.mg_none_of X G z_len,PySem.W.mg_none_of X G z_max,PySem.W.mg_none_of X G z_abs,PySem.W.mg_none_of X G z_divmod,PySem.W.mg_none_of X G z_list,PySem.W.mg_none_of X G z_tuple,PySem.W.mg_none_of X G z_range,PySem.W.mg_none_of X G z_int,PySem.W.mg_none_of X G z_str,PySem.W.mg_none_of X G z_repr,PySem.W.mg_none_of X G z_isinstance,PySem.W.mg_none_of X G z_all,PySem.W.mg_none_of X G z_set⟩
 have Gg:Gs K mg:=⟨⟨_,PySem.W.mg_of X G gL,tL,rfl⟩,⟨_,PySem.W.mg_of X G gI0,tI0,rfl⟩,⟨_,PySem.W.mg_of X G gI1,tI1,rfl⟩,⟨_,PySem.W.mg_of X G gI2,tI2,rfl⟩,⟨_,PySem.W.mg_of X G gI3,tI3,rfl⟩,wa,PySem.W.mg_of X G gW,fun H=>.inr ⟨_,_,_,lW,rfl,rfl,by show 5≤sizeLine; decide,.cons ⟨tw0,rfl⟩ (.cons ⟨tw1,rfl⟩ (.cons ⟨tw2,rfl⟩ (.cons ⟨tw3,rfl⟩ (.cons ⟨tw4,rfl⟩ (.nil)))))⟩⟩
 obtain⟨f47,fd47,F47,b47,a47,i47,k47⟩:=M47
 obtain⟨f48,fd48,F48,b48,a48,i48,k48⟩:=M48
 obtain⟨f49,fd49,F49,b49,a49,i49,k49⟩:=M49
 obtain⟨f50,fd50,F50,b50,a50,i50,k50⟩:=M50
 obtain⟨f51,fd51,F51,b51,a51,i51,k51⟩:=M51
 obtain⟨f52,fd52,F52,b52,a52,i52,k52⟩:=M52
 obtain⟨f53,fd53,F53,b53,a53,i53,k53⟩:=M53
 obtain⟨f54,fd54,F54,b54,a54,i54,k54⟩:=M54
 obtain⟨f55,fd55,F55,b55,a55,i55,k55⟩:=M55
 have FL:=iZ (st:=f9) l46 c46 k46
 have e:=hfa.symm.trans (PySem.W.mg_of X G a46)
 cases e
 refine⟨PySem.W.fnOf "law" "law" (cg f9) (bK f9) (af f9) .none kV46 dc46 pm46 an46 cd46 ct46,fun s v=>.of_eq rfl,fun base _ _=>?_⟩
 have dCell:=wb (P:=l.prog) (w:=w) (base:=base) F0 Z
 have dPot:=yq (P:=l.prog) (w:=w) (base:=base) F1 Z
 have dDraw:=vZ (P:=l.prog) (w:=w) (base:=base) F2 Z
 have dUnlike:=qh (P:=l.prog) (w:=w) (base:=base) F3 Z dDraw
 have dWo:=tO (P:=l.prog) (w:=w) (base:=base) F4 Z dDraw
 have dBook:=wc (P:=l.prog) (w:=w) (base:=base) F5 Z dDraw dUnlike dWo
 have dIl:=nM (P:=l.prog) (w:=w) (base:=base) F19 Z
 have dIn:=nJ (P:=l.prog) (w:=w) (base:=base) F20 Z Gg
 have dCa:=uc (P:=l.prog) (w:=w) (base:=base) F21 Z
 have dKs:=tZ (P:=l.prog) (w:=w) (base:=base) F22 Z Gg dIl dIn dCa
 have dK:=vV (P:=l.prog) (w:=w) (base:=base) F23 Z dIn
 have dPl:=qk (P:=l.prog) (w:=w) (base:=base) F24 Z Gg dIl dK
 have dSn:=kF (P:=l.prog) (w:=w) (base:=base) F25 Z Gg dIn
 have dTie:=yp (P:=l.prog) (w:=w) (base:=base) F26 Z dIl dSn dPl
 have dFu:=vY (P:=l.prog) (w:=w) (base:=base) F27 Z dIl dSn dPl dK
 have dIni:=vW (P:=l.prog) (w:=w) (base:=base) F47 Z Gg T dIl dKs dTie dFu dCa
 have dTk:=tS (P:=l.prog) (w:=w) (base:=base) F48 Z T
 have dTt:=tR (P:=l.prog) (w:=w) (base:=base) F49 Z T
 have dTf:=tT (P:=l.prog) (w:=w) (base:=base) F50 Z T
 have dCm:=jf (P:=l.prog) (w:=w) (base:=base) F28 Z
 have dWt:=vL (P:=l.prog) (w:=w) (base:=base) F29 Z dIl
 have dTm:=lP (P:=l.prog) (w:=w) (base:=base) F31 F30 Z TB (PySem.W.mg_none_of X G z_zip) dWt dCm
 have dSa:=ph (P:=l.prog) (w:=w) (base:=base) F34 F33 F32 Z TB (PySem.W.mg_none_of X G z_dict) dCm dWt dIn dTm 12
 have dTi:=nI (P:=l.prog) (w:=w) (base:=base) F51 Z T TB ⟨a48,i48,k48⟩ dTk b48 ⟨a49,i49,k49⟩ dTt b49 ⟨a50,i50,k50⟩ dTf b50
 have dLo:=vT (P:=l.prog) (w:=w) (base:=base) F35 Z GD ⟨mkB,a51,i51,kcB⟩ dTi (PySem.W.mg_of X G aCB) b51 dSa
 have dWn:=xm (P:=l.prog) (w:=w) (base:=base) F37 Z 12
 have dWs:=tN (P:=l.prog) (w:=w) (base:=base) F36 Z dLo dWn
 have dBr:=zy (P:=l.prog) (w:=w) (base:=base) F39 Z
 have dRs:=vS (P:=l.prog) (w:=w) (base:=base) F38 Z dLo dWn dBr
 have dLw:=xo (P:=l.prog) (w:=w) (base:=base) F13 Z (PySem.W.mg_none_of X G z_enumerate) 12
 have dMe:=tY (P:=l.prog) (w:=w) (base:=base) F6 Z
 have dVa:=yo (P:=l.prog) (w:=w) (base:=base) F7 Z dDraw dMe
 have dTr:=tQ (P:=l.prog) (w:=w) (base:=base) F8 Z dDraw dVa 2
 have dAt:=we (P:=l.prog) (w:=w) (base:=base) F9 Z dDraw dTr
 have dSi:=tU (P:=l.prog) (w:=w) (base:=base) F10 Z dDraw dAt 4
 have dSy:=qj (P:=l.prog) (w:=w) (base:=base) F11 Z dSi
 have dAs:=xq (P:=l.prog) (w:=w) (base:=base) F12 Z dDraw 8
 have dEm:=lR (P:=l.prog) (w:=w) (base:=base) F14 Z 8
 have dAll:=yw (P:=l.prog) (w:=w) (base:=base) F40 Z dIl dLo
 have dXi:=lO (P:=l.prog) (w:=w) (base:=base) F52 Z TX dAll
 have dXs:=qi (P:=l.prog) (w:=w) (base:=base) (C:=C) F53 Z TX
 have dXy:=tP (P:=l.prog) (w:=w) (base:=base) (C:=C) F54 Z TX
 have dWx:=tM (P:=l.prog) (w:=w) (base:=base) F41 Z T TX ⟨a48,i48,k48⟩ dTk b48 ⟨a49,i49,k49⟩ dTt b49 ⟨a50,i50,k50⟩ dTf b50 ⟨a53,i53,k53⟩ dXs b53 ⟨a54,i54,k54⟩ dXy b54 dWs
 have dDi:=qo (P:=l.prog) (w:=w) (base:=base) F55 Z TD
 have dDs:=qm (P:=l.prog) (w:=w) (base:=base) F42 Z TD ⟨mk,a47,i47,kc⟩ dIni (PySem.W.mg_of X G aC) b47
 have dRg:=tW (P:=l.prog) (w:=w) (base:=base) F43 Z TD
 have dRr:=vP (P:=l.prog) (w:=w) (base:=base) F44 Z TD (PySem.W.mg_of X G gS) hsa ⟨_,lS,rfl,rfl⟩ dRg dDs dRs
 have dRt:=tV (P:=l.prog) (w:=w) (base:=base) F45 Z (PySem.W.mg_none_of X G z_enumerate) TD ⟨mkD,a55,i55,kcD⟩ dDi (PySem.W.mg_of X G aCD) b55 ⟨mkX,a52,i52,kcX⟩ dXi (PySem.W.mg_of X G aCX) b52 dRr dDs
 have dRo:=vQ (P:=l.prog) (w:=w) (base:=base) F15 Z dLw
 have dBt:=t5 (P:=l.prog) (w:=w) (base:=base) F16 Z T ⟨a48,i48,k48⟩ dTk b48 ⟨a49,i49,k49⟩ dTt b49 ⟨a50,i50,k50⟩ dTf b50
 have dRight:=tX (P:=l.prog) (w:=w) (base:=base) F17 Z TX ⟨a53,i53,k53⟩ dXs b53 ⟨a54,i54,k54⟩ dXy b54 dBt dWx dRo
 have dLg:=vU (P:=l.prog) (w:=w) (base:=base) F18 Z dRo
 exact yu FL Z dCell dPot dDraw dBook dSy dLg dAs dEm dRight dRt dRo ⟨mk,a47,i47,kc⟩ dIni (PySem.W.mg_of X G aC) b47 ⟨mkX,a52,i52,kcX⟩ dXi (PySem.W.mg_of X G aCX) b52
theorem walk{l:PySem.W.OpenLaw}{q:Program}{loose:List Str}{XP:(Str→Option Value)→Heap→Prop}{YP:World→Heap→Prop}{d:DefRec}{K:Params→PySem.W.Frag}(hn:l.most=some 63)(hdf:d.params.defaults=[])(hq:PyProof.Rows.importsNone q=true)
  (hY:∀ (w:World) (h:Heap),YP w h→(K w.params).In h)
  (F:∀ (w:World) (mg:Str→Option Value) (fa:Addr) (h:Heap),(K w.params).In h→h.Ns mainGlobals mg→mg d.name=some (.ref fa)→
   ∃ fd:FuncData,(∀ (s:Shared) (u:Value),BindsTo s fd ⟨[u],[]⟩ [("_law_script",u)])∧∀ base:Heap,(K w.params).In base→base.Ns mainGlobals mg→aZ l.prog w (K w.params) mg base CX0 35 fa fd ["_law_script"] (oX (K w.params))) :
  PySem.W.WalkO q loose XP YP l.row.toRowW d [] (fun f vs=>PySem.call f vs):=
 L2.walk_of (n:=63) (k:=35) (x:="_law_script") (CX:=fun _=>CX0) (sp:=fun w=>oX (K w.params)) hn (by decide) hdf ⟨rfl,rfl,by decide,by decide⟩ hq hY F (fun _ _ a ns hl _ hS=>⟨a,ns,rfl,hS,hl,fun _=>rfl⟩) fun _ _ _ _ _ z=>z
end FewE
open PySem PySem.W PyProof.Rows
set_option maxRecDepth 100000 in
set_option maxHeartbeats 0 in
theorem PySem.Challenge.cw_fewthings_k16_texts_written_back_holds : PySem.Challenge.rw_fewthings_k16_texts_written_back.Holds := by
 w_on; o_law; k_head; (case hw=>w_witness2)
 k_fill
 refine FewE.walk (l:=PySem.Challenge.rw_fewthings_k16_texts_written_back) rfl rfl (by first | rfl | decide +kernel) (fun w h Y=>PySem.W.kIn_of Y) ?F
 case F=>
  intro w mg fa h KX G hmg
  refine' FewE.all_mk KX G hmg (FewE.funAt_mk KX G ?a0 ?l0 ?c0 ?k0 fun _ _ _ _ _ _ _ h=>by obtain⟨_,_,rfl⟩:=FewE.lu2 h; rfl) (FewE.funAt_mk KX G ?a1 ?l1 ?c1 ?k1 fun _ _ _ _ _ _ _ h=>by obtain⟨_,rfl⟩:=FewE.lu1 h; rfl) (FewE.funAt_mk KX G ?a2 ?l2 ?c2 ?k2 fun _ _ _ _ _ _ _ h=>by obtain⟨_,_,rfl⟩:=FewE.lu2 h; rfl) (FewE.funAt_mk KX G ?a3 ?l3 ?c3 ?k3 fun _ _ _ _ _ _ _ h=>by obtain⟨_,_,_,rfl⟩:=FewE.lu3 h; rfl) (FewE.funAt_mk KX G ?a4 ?l4 ?c4 ?k4 fun _ _ _ _ _ _ _ h=>by obtain⟨_,_,rfl⟩:=FewE.lu2 h; rfl) (FewE.funAt_mk KX G ?a5 ?l5 ?c5 ?k5 fun _ _ _ _ _ _ _ h=>by obtain⟨_,_,_,rfl⟩:=FewE.lu3 h; rfl) (FewE.funAt_mk KX G ?a6 ?l6 ?c6 ?k6 fun _ _ _ _ _ _ _ h=>by obtain⟨_,rfl⟩:=FewE.lu1 h; rfl) (FewE.funAt_mk KX G ?a7 ?l7 ?c7 ?k7 fun _ _ _ _ _ _ _ h=>by obtain⟨_,_,_,rfl⟩:=FewE.lu3 h; rfl) (FewE.funAt_mk KX G ?a8 ?l8 ?c8 ?k8 fun _ _ _ _ _ _ _ h=>by obtain⟨_,_,_,_,_,rfl⟩:=FewE.lu5 h; rfl) (FewE.funAt_mk KX G ?a9 ?l9 ?c9 ?k9 fun _ _ _ _ _ _ _ h=>by obtain⟨_,_,_,_,rfl⟩:=FewE.lu4 h; rfl) (FewE.funAt_mk KX G ?a10 ?l10 ?c10 ?k10 fun _ _ _ _ _ _ _ h=>by obtain⟨_,_,_,_,rfl⟩:=FewE.lu4 h; rfl) (FewE.funAt_mk KX G ?a11 ?l11 ?c11 ?k11 fun _ _ _ _ _ _ _ h=>by obtain⟨_,_,_,rfl⟩:=FewE.lu3 h; rfl) (FewE.funAt_mk KX G ?a12 ?l12 ?c12 ?k12 fun _ _ _ _ _ _ _ h=>by obtain⟨_,_,rfl⟩:=FewE.lu2 h; rfl) (FewE.funAt_mk KX G ?a13 ?l13 ?c13 ?k13 fun _ _ _ _ _ _ _ h=>by obtain⟨_,rfl⟩:=FewE.lu1 h; rfl) (FewE.funAt_mk KX G ?a14 ?l14 ?c14 ?k14 fun _ _ _ _ _ _ _ h=>by obtain⟨_,rfl⟩:=FewE.lu1 h; rfl) (FewE.funAt_mk KX G ?a15 ?l15 ?c15 ?k15 fun _ _ _ _ _ _ _ h=>by obtain⟨_,_,rfl⟩:=FewE.lu2 h; rfl) (FewE.funAt_mk KX G ?a16 ?l16 ?c16 ?k16 fun _ _ _ _ _ _ _ h=>by obtain⟨_,rfl⟩:=FewE.lu1 h; rfl) (FewE.funAt_mk KX G ?a17 ?l17 ?c17 ?k17 fun _ _ _ _ _ _ _ h=>by obtain⟨_,_,_,rfl⟩:=FewE.lu3 h; rfl) (FewE.funAt_mk KX G ?a18 ?l18 ?c18 ?k18 fun _ _ _ _ _ _ _ h=>by obtain⟨_,_,rfl⟩:=FewE.lu2 h; rfl) (FewE.funAt_mk KX G ?a19 ?l19 ?c19 ?k19 fun _ _ _ _ _ _ _ h=>by obtain⟨_,rfl⟩:=FewE.lu1 h; rfl) (FewE.funAt_mk KX G ?a20 ?l20 ?c20 ?k20 fun _ _ _ _ _ _ _ h=>by obtain⟨_,rfl⟩:=FewE.lu1 h; rfl) (FewE.funAt_mk KX G ?a21 ?l21 ?c21 ?k21 fun _ _ _ _ _ _ _ h=>by obtain⟨_,rfl⟩:=FewE.lu1 h; rfl) (FewE.funAt_mk KX G ?a22 ?l22 ?c22 ?k22 fun _ _ _ _ _ _ _ h=>by obtain⟨_,rfl⟩:=FewE.lu1 h; rfl) (FewE.funAt_mk KX G ?a23 ?l23 ?c23 ?k23 fun _ _ _ _ _ _ _ h=>by obtain⟨_,_,rfl⟩:=FewE.lu2 h; rfl) (FewE.funAt_mk KX G ?a24 ?l24 ?c24 ?k24 fun _ _ _ _ _ _ _ h=>by obtain⟨_,_,rfl⟩:=FewE.lu2 h; rfl) (FewE.funAt_mk KX G ?a25 ?l25 ?c25 ?k25 fun _ _ _ _ _ _ _ h=>by obtain⟨_,rfl⟩:=FewE.lu1 h; rfl) (FewE.funAt_mk KX G ?a26 ?l26 ?c26 ?k26 fun _ _ _ _ _ _ _ h=>by obtain⟨_,_,rfl⟩:=FewE.lu2 h; rfl) (FewE.funAt_mk KX G ?a27 ?l27 ?c27 ?k27 fun _ _ _ _ _ _ _ h=>by obtain⟨_,_,rfl⟩:=FewE.lu2 h; rfl) (FewE.funAt_mk KX G ?a28 ?l28 ?c28 ?k28 fun _ _ _ _ _ _ _ h=>by obtain⟨_,_,rfl⟩:=FewE.lu2 h; rfl) (FewE.funAt_mk KX G ?a29 ?l29 ?c29 ?k29 fun _ _ _ _ _ _ _ h=>by obtain⟨_,_,rfl⟩:=FewE.lu2 h; rfl) (FewE.funAt_mk KX G ?a30 ?l30 ?c30 ?k30 fun _ _ _ _ _ _ _ h=>by obtain⟨_,_,_,_,_,rfl⟩:=FewE.lu5 h; rfl) (FewE.funAt_mk KX G ?a31 ?l31 ?c31 ?k31 fun _ _ _ _ _ _ _ h=>by obtain⟨_,_,_,_,rfl⟩:=FewE.lu4 h; rfl) (FewE.funAt_mk KX G ?a32 ?l32 ?c32 ?k32 fun _ _ _ _ _ _ _ h=>by obtain⟨_,_,_,_,rfl⟩:=FewE.lu4 h; rfl) (FewE.funAt_mk KX G ?a33 ?l33 ?c33 ?k33 fun _ _ _ _ _ _ _ h=>by obtain⟨_,_,_,_,_,rfl⟩:=FewE.lu5 h; rfl) (FewE.funAt_mk KX G ?a34 ?l34 ?c34 ?k34 fun _ _ _ _ _ _ _ h=>by obtain⟨_,_,_,_,rfl⟩:=FewE.lu4 h; rfl) (FewE.funAt_mk KX G ?a35 ?l35 ?c35 ?k35 fun _ _ _ _ _ _ _ h=>by obtain⟨_,_,rfl⟩:=FewE.lu2 h; rfl) (FewE.funAt_mk KX G ?a36 ?l36 ?c36 ?k36 fun _ _ _ _ _ _ _ h=>by obtain⟨_,_,rfl⟩:=FewE.lu2 h; rfl) (FewE.funAt_mk KX G ?a37 ?l37 ?c37 ?k37 fun _ _ _ _ _ _ _ h=>by obtain⟨_,rfl⟩:=FewE.lu1 h; rfl) (FewE.funAt_mk KX G ?a38 ?l38 ?c38 ?k38 fun _ _ _ _ _ _ _ h=>by obtain⟨_,_,rfl⟩:=FewE.lu2 h; rfl) (FewE.funAt_mk KX G ?a39 ?l39 ?c39 ?k39 fun _ _ _ _ _ _ _ h=>by obtain⟨_,rfl⟩:=FewE.lu1 h; rfl) (FewE.funAt_mk KX G ?a40 ?l40 ?c40 ?k40 fun _ _ _ _ _ _ _ h=>by obtain⟨_,_,rfl⟩:=FewE.lu2 h; rfl) (FewE.funAt_mk KX G ?a41 ?l41 ?c41 ?k41 fun _ _ _ _ _ _ _ h=>by obtain⟨_,rfl⟩:=FewE.lu1 h; rfl) (FewE.funAt_mk KX G ?a42 ?l42 ?c42 ?k42 fun _ _ _ _ _ _ _ h=>by obtain⟨_,rfl⟩:=FewE.lu1 h; rfl) (FewE.funAt_mk KX G ?a43 ?l43 ?c43 ?k43 fun _ _ _ _ _ _ _ h=>by obtain⟨_,_,_,rfl⟩:=FewE.lu3 h; rfl) (FewE.funAt_mk KX G ?a44 ?l44 ?c44 ?k44 fun _ _ _ _ _ _ _ h=>by obtain⟨_,_,rfl⟩:=FewE.lu2 h; rfl) (FewE.funAt_mk KX G ?a45 ?l45 ?c45 ?k45 fun _ _ _ _ _ _ _ h=>by obtain⟨_,rfl⟩:=FewE.lu1 h; rfl) ?a46 ?l46 ?c46 ?k46 ?aC ?aCB ?aCX ?aCD (FewE.methAt_mk ?a47 ?i47 ?l47 ?c47 ?k47 fun _ _ _ _ _ _ _ h=>by obtain⟨_,_,_,_,rfl⟩:=FewE.lu4 h; rfl) (FewE.methAt_mk ?a48 ?i48 ?l48 ?c48 ?k48 fun _ _ _ _ _ _ _ h=>by obtain⟨_,rfl⟩:=FewE.lu1 h; rfl) (FewE.methAt_mk ?a49 ?i49 ?l49 ?c49 ?k49 fun _ _ _ _ _ _ _ h=>by obtain⟨_,rfl⟩:=FewE.lu1 h; rfl) (FewE.methAt_mk ?a50 ?i50 ?l50 ?c50 ?k50 fun _ _ _ _ _ _ _ h=>by obtain⟨_,rfl⟩:=FewE.lu1 h; rfl) (FewE.methAt_mk ?a51 ?i51 ?l51 ?c51 ?k51 fun _ _ _ _ _ _ _ h=>by obtain⟨_,_,rfl⟩:=FewE.lu2 h; rfl) (FewE.methAt_mk ?a52 ?i52 ?l52 ?c52 ?k52 fun _ _ _ _ _ _ _ h=>by obtain⟨_,_,_,rfl⟩:=FewE.lu3 h; rfl) (FewE.methAt_mk ?a53 ?i53 ?l53 ?c53 ?k53 fun _ _ _ _ _ _ _ h=>by obtain⟨_,rfl⟩:=FewE.lu1 h; rfl) (FewE.methAt_mk ?a54 ?i54 ?l54 ?c54 ?k54 fun _ _ _ _ _ _ _ h=>by obtain⟨_,rfl⟩:=FewE.lu1 h; rfl) (FewE.methAt_mk ?a55 ?i55 ?l55 ?c55 ?k55 fun _ _ _ _ _ _ _ h=>by obtain⟨_,rfl⟩:=FewE.lu1 h; rfl) ?pg ?hd ?po ?sa ?mk ?kc ?n0 ?n1 ?n2 ?pgB ?hdB ?poB ?saB ?mkB ?kcB ?n0B ?n1B ?n2B ?n3B ?pgX ?hdX ?poX ?saX ?mkX ?kcX ?n0X ?n1X ?pgD ?hdD ?poD ?saD ?mkD ?kcD ?n0D ?n1D ?n2D ?n3D ?n4D ?z_len ?z_max ?z_abs ?z_divmod ?z_list ?z_tuple ?z_range ?z_int ?z_str ?z_repr ?z_isinstance ?z_all ?z_set ?z_dict ?z_zip ?z_enumerate ?gL ?gI0 ?gI1 ?gI2 ?gI3 ?gI4 ?gW ?lW ?gS ?lS
  all_goals (try k_is)
