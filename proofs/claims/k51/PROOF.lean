import PyProof.Rows.All
import Wide.All
import OpenK.AllK
import Wide.FinOn
import Lean
import PyProof.EqAt
import PyProof.EqKinds
import PyProof.TupleCall
import PyProof.ExcBaseAll.ValueError
import PyProof.RulesAs
import PyProof.RulesDel
import PyProof.ExcArgsOwn
import PyProof.Draws
import PyProof.EnumFor
import PyProof.EnumMake
import KE.KDictList
import PyProof.ZipIter
import PyProof.TupleIter
import KE.KItemsList
import PyProof.AttrMissHeap
import KE.KDictOf
import PyProof.Rows.ZipGen
import PyProof.Rows.BootFacts
import PyProof.NeKinds
import PyProof.ListRange
import PyProof.RangeFor
import PyProof.DictCompW
import PyProof.CollectIter
import PyProof.WalksMore
import PyProof.DictUpdate
import PyProof.StrBlockH
import PyProof.StrLawsTight
import PyProof.StrLawsChain
import PyProof.StrCalls6
import PyProof.StrLawsReplace
import PyProof.ListIndex
import PyProof.Rows.DictUnroll
import PyProof.ExcClass3
import PyProof.InstStore
import PyProof.InstStoreFacts
import OpenK.KOwn
import OpenK.KMake
import PyProof.InstLoad
import KE.KLam
import KE.KNestM
import PyProof.P3Eq
import PyProof.Rows.CountFlat
import KE.RegKIsAll
import PySem.Challenge.RW_fewthings_k51_namings_told
namespace PySem.W.Fast
def tw18352947687660235178:=0
def tw2441720368721212661:=0
def tw11992743492001884823:=0
def tw5758934245836559120:=0
def tw3590688667986776514:=0
def tw455106097897481080:=0
def tw6291815708618334453:=0
def tw16970726053244867598:=0
def tw8456044808866302118:=0
def tw10156048738595761429:=0
def tw2317910578025431451:=0
def tw16847754664559433929:=0
def tw7612440745836950880:=0
def tw13934677197402740194:=0
def tw17988652624220443396:=0
def tw4293148049510695123:=0
def tw7278273759375450422:=0
def tw4398083802203080925:=0
def tw15402875742432651296:=0
def tw8619542711454518602:=0
def tw12372573585496872583:=0
def tw15673543354841257773:=0
def tw4739194960294976415:=0
def tw11944638706970172933:=0
def tw14845025612388538712:=0
def tw16107619447886574987:=0
def tw7572744266179677056:=0
def tw15190950456432711328:=0
def tw9993071288914551249:=0
def tw17341424505062187608:=0
def tw4721251616160490897:=0
def tw6884209829322383852:=0
def tw13347412877031632598:=0
def tw1576991331204681085:=0
def tw13004610270479696907:=0
def tw16130139473382630080:=0
def tw10306336984471831731:=0
def tw4484382808318760206:=0
def tw13758272345741756776:=0
def tw3747832538322130361:=0
def tw10997034704426124512:=0
def tw8278161918031928743:=0
def tw4893944579517172917:=0
def tw9742055658780631776:=0
def tw6680891879691853230:=0
def tw5235948504463960416:=0
def tw15603982568823067983:=0
def tw7276536560536314528:=0
def tw9120185657243492467:=0
def tw1490967186569508452:=0
def tw11735292100019407570:=0
def tw10225267500411734453:=0
def tw5357769192203427784:=0
def tw10981861067620775956:=0
def tw5664681317523232561:=0
def tw8780569159693567285:=0
def tw8617506919152245013:=0
def tw13844379082872543977:=0
def tw1465047902548247293:=0
def tw12081060479980538796:=0
def tw7400423795105300562:=0
def tw15653256617785975603:=0
def tw7167383531059333800:=0
def tw8741695497005574946:=0
def tw18438756231710268768:=0
def tw8421965203653728884:=0
def tw5939421344522308744:=0
def tw8398416406098558760:=0
def tw3941101572824763118:=0
def tw4514105095686433025:=0
def tw16880006018485145966:=0
def tw1721513425578839009:=0
def tw6536048550109002217:=0
def tw2207860066943389977:=0
def tw10072875378978954481:=0
def tw12171803329010674610:=0
def tw7695768586669903355:=0
def tw484033773970267508:=0
def tw4748949493566296287:=0
def tw12053379356577906910:=0
def tw17311092194156789038:=0
def tw12510493488423509891:=0
def tw15384950890200274123:=0
def tw11405363891459563923:=0
def tw3929850037369892889:=0
def tw4234346739474016475:=0
def tw3087915608467526699:=0
def tw6217551339549923166:=0
def tw15042937512463530592:=0
def tw11068450925919579850:=0
def tw4706862901239706173:=0
def tw10491278662926735092:=0
def tw3959527174219807342:=0
def tw13415056870521227013:=0
def tw7702205573009586358:=0
def tw7992915240847665908:=0
def tw14898189545731487381:=0
def tw5484605075857109425:=0
def tw14490503017282378320:=0
def tw10314530791224387941:=0
def tw16572746025775942913:=0
def tw679268982332891941:=0
def tw6345577317945168774:=0
def tw14817615312123883848:=0
def tw16713334666482369757:=0
def tw345365634749519616:=0
def tw16997761808766544329:=0
def tw8620468198980514176:=0
def tw11942865807494054592:=0
def tw9005128210687966918:=0
def tw17059609952779906580:=0
def tw16597682556920916204:=0
def tw2856132027482322704:=0
def tw7956088652898063185:=0
def tw498505642786668672:=0
def tw16189550773441115691:=0
def tw7043290407183635882:=0
def tw5449716855922794097:=0
def tw12795323045000734900:=0
def tw18185587170955896798:=0
def tw6114415070393898653:=0
def tw5162311643053023688:=0
def tw3285590794977427285:=0
def tw13998529572615070745:=0
def tw1111634519733785457:=0
def tw11063688033851269102:=0
def tw3384897347861209436:=0
def tw7432545304766648916:=0
def tw12996151306661544097:=0
def tw1330538332476036355:=0
def tw1774735289942920001:=0
def tw3545652257645353024:=0
def tw15674800041278108699:=0
def tw16705806368086333646:=0
def tw6068053818004545885:=0
def tw15263355425904469980:=0
def tw13360967445625489969:=0
def tw9337656349040985530:=0
def tw2540809178332677996:=0
def tw10443898107829992452:=0
def tw18165313404167592375:=0
def tw14776552031184671299:=0
def tw393420265557514569:=0
def tw17361238413289927856:=0
def tw16129310555814147047:=0
def tw11442064867956268410:=0
def tw15341835523508641950:=0
def tw6303413226512823336:=0
def tw16322030678202890193:=0
def tw17919421920792397626:=0
def tw10786180034007953588:=0
def tw3929659609271024366:=0
def tw4633390574287660418:=0
def tw1187936177571927818:=0
def tw18067263516013642436:=0
def tw7305856641157124037:=0
def tw2196621547907028809:=0
def tw17719653694779518402:=0
def tw10902556164085038642:=0
def tw11870848652707932778:=0
end PySem.W.Fast
set_option Elab.async false
set_option linter.all false
set_option maxRecDepth 100000
namespace L2
open PySem PySem.Spec PyProof.Rows
abbrev Key:=Sum Int Str
def keyIs:Key→Value→Bool
 | .inl k,v=>Value.isInt k v
 | .inr x,v=>Value.isStrOf x v
def keyH (w:World):Key→Int
 | .inl k=>hashInt k
 | .inr x=>hashStr w x
theorem keyIs_shape:∀ {k:Key} {v:Value},keyIs k v=true→(∃ i t,k=Sum.inl i∧v=Value.int i t)∨(∃ x t,k=Sum.inr x∧v=Value.str x t)
 | .inl i,v,h=>by
  obtain⟨t,e⟩:=Value.isInt_shape (k:=i) (v:=v) h
  exact .inl ⟨i,t,rfl,e⟩
 | .inr x,v,h=>by
  obtain⟨t,e⟩:=Value.isStrOf_shape (x:=x) (v:=v) h
  exact .inr ⟨x,t,rfl,e⟩
theorem key_ll (a b:Int):decide ((Sum.inl a:Key)=Sum.inl b)=(a==b):=by
 by_cases e:a=b
 ·subst e; simp
 ·have h:¬ (Sum.inl a:Key)=Sum.inl b:=fun q=>e (Sum.inl.inj q)
  rw [decide_eq_false h]
  exact(beq_eq_false_iff_ne.mpr e).symm
theorem key_rr (a b:Str):decide ((Sum.inr a:Key)=Sum.inr b)=decide (a=b):=by
 by_cases e:a=b
 ·subst e; simp
 ·have h:¬ (Sum.inr a:Key)=Sum.inr b:=fun q=>e (Sum.inr.inj q)
  rw [decide_eq_false h,decide_eq_false e]
theorem key_lr (a:Int) (b:Str):decide ((Sum.inl a:Key)=Sum.inr b)=false:=decide_eq_false (fun q=>nomatch q)
theorem key_rl (a:Str) (b:Int):decide ((Sum.inr a:Key)=Sum.inl b)=false:=decide_eq_false (fun q=>nomatch q)
def mixKind (prog:Program) (w:World):PySem.KeyKind prog w Key where
 is:=keyIs
 hash:=keyH w
 inj:=fun v a b ha hb=>by
  rcases keyIs_shape ha with ⟨i,t,rfl,rfl⟩ | ⟨x,t,rfl,rfl⟩
  ·rcases keyIs_shape hb with ⟨j,u,rfl,e⟩ | ⟨y,u,rfl,e⟩
   ·injection e with e1 _; rw [e1]
   ·exact nomatch e
  ·rcases keyIs_shape hb with ⟨j,u,rfl,e⟩ | ⟨y,u,rfl,e⟩
   ·exact nomatch e
   ·injection e with e1 _; rw [e1]
 byValue:=fun k v h=>by
  rcases keyIs_shape h with ⟨i,t,rfl,rfl⟩ | ⟨x,t,rfl,rfl⟩ <;> rfl
 pyHash:=fun hv h=>by
  rcases keyIs_shape hv with ⟨i,t,rfl,rfl⟩ | ⟨x,t,rfl,rfl⟩
  ·exact wpAny_pyHash_int h
  ·exact wpAny_pyHash_str h
 eqBool:=fun hu hv h=>by
  rcases keyIs_shape hu with ⟨i,t,rfl,rfl⟩ | ⟨x,t,rfl,rfl⟩
  ·rcases keyIs_shape hv with ⟨j,u,rfl,rfl⟩ | ⟨y,u,rfl,rfl⟩
   ·rw [key_ll] at h; exact wpAny_eqBool_int h
   ·rw [key_lr] at h; exact SeqAt.EqAt.int_str i t y u _ _ _ _ h
  ·rcases keyIs_shape hv with ⟨j,u,rfl,rfl⟩ | ⟨y,u,rfl,rfl⟩
   ·rw [key_rl] at h; exact SeqAt.EqAt.str_int x t j u _ _ _ _ h
   ·rw [key_rr] at h; exact wpAny_eqBool_str h
 «strs»:=fun k x t v h=>by
  rcases keyIs_shape h with ⟨i,u,rfl,e⟩ | ⟨y,u,rfl,e⟩
  ·exact nomatch e
  ·injection e with e1 _
   subst e1
   cases v <;> rfl
inductive V where
 | non | bl (b:Bool) | int (i:Int) | str (x:Str) | byt (b:Array UInt8) | flt (b:UInt64) | ref (a:Addr) | ty (n:String)
 deriving DecidableEq
def RelV:V→Value→Prop
 | .non,u=>u=Value.none
 | .bl b,u=>u=Value.bool b
 | .int i,u=>∃ t,u=Value.int i t
 | .str x,u=>∃ t,u=Value.str x t
 | .byt b,u=>∃ t,u=Value.bytes b t
 | .flt b,u=>∃ t,u=Value.float b t
 | .ref a,u=>u=Value.ref a
 | .ty n,u=>u=Value.type n
abbrev Vals:List V→List Value→Prop:=Paired RelV
theorem Vals.length {xs:List V} {us:List Value} (r:Vals xs us):xs.length=us.length:=Paired.length r
theorem Vals.get:∀ {xs:List V} {us:List Value} {i:Nat} {x:V},Vals xs us→xs[i]? = some x→∃ u,us[i]? = some u∧RelV x u
 | _,_,_,_,.nil,e=>by simp at e
 | _,_,0,_,.cons r _,e=>by simp at e; subst e; exact⟨_,rfl,r⟩
 | _,_,i+1,x,.cons _ t,e=>by
  obtain⟨u,h1,h2⟩:=Vals.get (i:=i) (x:=x) t (by simpa using e)
  exact⟨u,by simpa using h1,h2⟩
theorem Vals.set {x:V} {u:Value} (r:RelV x u):∀ {xs:List V} {us:List Value} (i:Nat),Vals xs us→Vals (xs.set i x) (us.set i u)
 | _,_,_,.nil=>.nil
 | _,_,0,.cons _ t=>.cons r t
 | _,_,i+1,.cons q t=>.cons q (Vals.set r i t)
theorem Vals.append:∀ {xs ys:List V} {us ws:List Value},Vals xs us→Vals ys ws→Vals (xs++ys) (us++ws)
 | _,_,_,_,.nil,s=>s
 | _,_,_,_,.cons r t,s=>.cons r (Vals.append t s)
theorem Vals.take:∀ {xs:List V} {us:List Value} (n:Nat),Vals xs us→Vals (xs.take n) (us.take n)
 | _,_,0,_=>.nil
 | _,_,_+1,.nil=>.nil
 | _,_,n+1,.cons r t=>.cons r (Vals.take n t)
theorem Vals.drop:∀ {xs:List V} {us:List Value} (n:Nat),Vals xs us→Vals (xs.drop n) (us.drop n)
 | _,_,0,r=>r
 | _,_,_+1,.nil=>.nil
 | _,_,n+1,.cons _ t=>Vals.drop n t
def RelO:Option V→Option Value→Prop
 | some v,some u=>RelV v u
 | none,none=>True
 | _,_=>False
def KV {κ:Type}:List (κ×V)→List (κ×Value)→Prop:=Paired fun (p:κ×V) (q:κ×Value)=>p.1=q.1∧RelV p.2 q.2
def kV:Key→V
 | .inl i=>.int i
 | .inr x=>.str x
inductive HO where
 | lst (xs:List V)
 | tup (xs:List V)
 | dK (kvs:List (Key×V)) | dT (kvs:List (List Key×V))
 | set (S:Int→Bool) (n:Nat)
 | ins (C dx:Addr) (fs:List (Str×V))
 | own (x:Addr)
 | xd (fs:List (Str×V))
 | met (f x:Addr)
 | rng (lo hi:Int)
 | frz (o:Obj) (u:HO)
 | tbl (ps:Array Value)
 | ext (φ:Heap→Prop)
abbrev Hp:=Addr→Option HO
def upd (H:Hp) (a:Addr) (o:HO):Hp:=fun b=>if b=a then some o else H b
theorem upd_same {H:Hp} {a:Addr} {o:HO}:upd H a o a=some o:=by unfold upd; rw [if_pos rfl]
theorem upd_ne {H:Hp} {a b:Addr} {o:HO} (h:b≠a):upd H a o b=H b:=by unfold upd; rw [if_neg h]
theorem ne_of_none {H:Hp} {a b:Addr} {o:HO} (h:H a=some o) (h':H b=none):a≠b:=by
 intro e; subst e; rw [h] at h'; cases h'
section
variable (P:Program) (w:World)
def ObjOk (H:Hp) (h:Heap) (a:Addr):HO→Prop
 | .lst xs=>xs.length≤sizeLine∧∃ (its:List Value) (n:Nat),Vals xs its∧h.get? a=some {cls:=.type "list",data:=.seq its.toArray n}
 | .tup xs=>xs.length≤sizeLine∧∃ its:List Value,Vals xs its∧IsTup h a its.toArray
 | .dK kvs=>kvs.length≤sizeLine∧(a==sysModules)=false∧∃ vs,KV kvs vs∧h.DictOf (mixKind P w) a vs
 | .dT kvs=>kvs.length≤sizeLine∧(a==sysModules)=false∧∃ xs:List (List Key×Addr×Value),
   Paired (fun (p:List Key×V) (q:List Key×Addr×Value)=>p.1=q.1∧H q.2.1=some (.tup (p.1.map kV))∧RelV p.2 q.2.2) kvs xs∧
   ∃ o es ep,h.get? a=some o∧o.ExactDict∧o.data=.dict es ep∧es.toList=xs.map (entryOfKey (tupleKind (mixKind P w)))∧(xs.map (·.1)).Nodup
 | .set S n=>h.SetOf (intKind P w) a S n
 | .ins C dx fs=>H dx=some (.own a)∧fs.length≤1000∧dx≠a∧h.get? a=some (PySem.W.instObj C dx)∧
   ∃ mA,h.Ns1 dx mA∧(∀ f,RelO (fs.lookup f) (mA f))∧PySem.Within mA (fs.map (·.1))
 | .own _=>∃ o,h.get? a=some o
 | .xd fs=>∃ mA,h.Ns1 a mA∧∀ f,RelO (fs.lookup f) (mA f)
 | .rng lo hi=>∃ t u v,h.get? a=some {cls:=.type "range",data:=.fields #[.int lo t,.int hi u,.int 1 v]}
 | .frz o u=>h.get? a=some o∧ObjOk H h a u
 | .tbl ps=>h.get? a=some {cls:=.none,data:=.fields ps}
 | .met f x=>h.get? a=some (PySem.W.methodObj (.ref f) (.ref x))
 | .ext φ=>φ h∧(∃ o,h.get? a=some o)∧∀ h1 h2:Heap,φ h1→(∀ o,h1.get? a=some o→h2.get? a=some o)→φ h2
def HOk (H:Hp) (h:Heap):Prop:=∀ a o,H a=some o→ObjOk P w H h a o
end
section
variable {P:Program} {w:World} {H H':Hp} {h h':Heap} {a:Addr} {o:HO}
theorem ObjOk.lt (x:ObjOk P w H h a o):a<h.objs.size:=by
 cases o with
 | lst xs=>obtain⟨_,_,_,_,e⟩:=x; exact Heap.lt_size e
 | tup xs=>obtain⟨_,_,_,p⟩:=x; exact p.lt
 | dK kvs=>obtain⟨_,_,_,_,o,_,_,e,_⟩:=x; exact Heap.lt_size e
 | dT kvs=>obtain⟨_,_,_,_,o,_,_,e,_⟩:=x; exact Heap.lt_size e
 | set S n=>obtain⟨o,_,_,_,e,_⟩:=x; exact Heap.lt_size e
 | ins C dx fs=>obtain⟨_,_,_,e,_⟩:=x; exact Heap.lt_size e
 | own y=>obtain⟨_,e⟩:=x; exact Heap.lt_size e
 | xd fs=>obtain⟨_,⟨_,_,_,e,_⟩,_⟩:=x; exact Heap.lt_size e
 | rng lo hi=>obtain⟨_,_,_,e⟩:=x; exact Heap.lt_size e
 | frz ob u=>obtain⟨e,_⟩:=x; exact Heap.lt_size e
 | tbl ps=>exact Heap.lt_size (show h.get? a=some _ from x)
 | met f y=>exact Heap.lt_size (show h.get? a=some _ from x)
 | ext φ=>obtain⟨_,⟨_,e⟩,_⟩:=x; exact Heap.lt_size e
theorem Paired.mapP {α β:Type} {F G:α→β→Prop}:∀ {l₁:List α} {l₂:List β},Paired F l₁ l₂→(∀ a b,F a b→G a b)→Paired G l₁ l₂
 | _,_,.nil,_=>.nil
 | _,_,.cons r t,f=>.cons (f _ _ r) (Paired.mapP t f)
theorem ObjOk.stay (x:ObjOk P w H h a o) (k:∀ b u,(b=a∨H b=some (.own a))→h.get? b=some u→h'.get? b=some u)
  (ho:∀ b,H b=some (.own a)→H' b=some (.own a)) (ht:∀ b xs,H b=some (.tup xs)→H' b=some (.tup xs)):ObjOk P w H' h' a o:=by
 induction o with
 | lst xs=>obtain⟨z,its,n,r,e⟩:=x; exact⟨z,its,n,r,k _ _ (.inl rfl) e⟩
 | tup xs=>obtain⟨z,its,r,ob,e,c⟩:=x; exact⟨z,its,r,ob,k _ _ (.inl rfl) e,c⟩
 | dK kvs=>obtain⟨z,y,vs,r,ob,es,ep,e,c⟩:=x; exact⟨z,y,vs,r,ob,es,ep,k _ _ (.inl rfl) e,c⟩
 | dT kvs=>
  obtain⟨z,y,xs,r,ob,es,ep,e,c⟩:=x
  exact⟨z,y,xs,Paired.mapP r fun p q z=>⟨z.1,ht _ _ z.2.1,z.2.2⟩,ob,es,ep,k _ _ (.inl rfl) e,c⟩
 | set S n=>obtain⟨ob,es,ep,t,e,c⟩:=x; exact⟨ob,es,ep,t,k _ _ (.inl rfl) e,c⟩
 | ins C dx fs=>
  obtain⟨d,z,ne,e,mA,⟨od,es,ep,e2,c⟩,r⟩:=x
  exact⟨ho _ d,z,ne,k _ _ (.inl rfl) e,mA,⟨od,es,ep,k _ _ (.inr d) e2,c⟩,r⟩
 | own y=>obtain⟨ob,e⟩:=x; exact⟨ob,k _ _ (.inl rfl) e⟩
 | xd fs=>obtain⟨mA,⟨od,es,ep,e,c⟩,r⟩:=x; exact⟨mA,⟨od,es,ep,k _ _ (.inl rfl) e,c⟩,r⟩
 | rng lo hi=>obtain⟨t,u,v,e⟩:=x; exact⟨t,u,v,k _ _ (.inl rfl) e⟩
 | frz ob u ih=>obtain⟨e,q⟩:=x; exact⟨k _ _ (.inl rfl) e,ih q⟩
 | tbl ps=>
  have e:h.get? a=some {cls:=.none,data:=.fields ps}:=x
  show h'.get? a=some {cls:=.none,data:=.fields ps}
  exact k a _ (.inl rfl) e
 | met f y=>
  have e:h.get? a=some (PySem.W.methodObj (.ref f) (.ref y)):=x
  show h'.get? a=some (PySem.W.methodObj (.ref f) (.ref y))
  exact k a _ (.inl rfl) e
 | ext φ=>obtain⟨p,⟨o,e⟩,st⟩:=x; exact⟨st _ _ p fun o q=>k _ _ (.inl rfl) q,⟨o,k _ _ (.inl rfl) e⟩,st⟩
theorem HOk.lt (x:HOk P w H h) (e:H a=some o):a<h.objs.size:=(x a o e).lt
theorem HOk.fresh (x:HOk P w H h) (e:h.objs.size≤a):H a=none:=by
 cases q:H a with
 | none=>rfl
 | some u=>exact absurd (Nat.lt_of_lt_of_le (x.lt q) e) (Nat.lt_irrefl _)
theorem HOk.kept (x:HOk P w H h) (k:∀ b u,h.get? b=some u→h'.get? b=some u):HOk P w H h':=fun a o e=>
 (x a o e).stay (fun b u _ q=>k b u q) (fun _ q=>q) fun _ _ q=>q
theorem HOk.laid (x:HOk P w H h) (k:∀ b u,h.get? b=some u→h'.get? b=some u) (hp:h.objs.size≤a) (new:ObjOk P w (upd H a o) h' a o):HOk P w (upd H a o) h':=fun b u e=>by
 have hn:=x.fresh hp
 by_cases hb:b=a
 ·subst hb; rw [upd_same] at e; cases e; exact new
 ·rw [upd_ne hb] at e
  exact(x b u e).stay (fun c v _ q=>k c v q) (fun c q=>by rw [upd_ne (ne_of_none q hn)]; exact q) fun c xs q=>by rw [upd_ne (ne_of_none q hn)]; exact q
end
def Rd (H:Hp) (a:Addr) (u:HO):Prop:=H a=some u∨∃ o,H a=some (.frz o u)
theorem Rd.ok {P:Program} {w:World} {H:Hp} {h:Heap} {a:Addr} {u:HO} (r:Rd H a u) (x:HOk P w H h):ObjOk P w H h a u:=by
 rcases r with r | ⟨o,r⟩
 ·exact x a u r
 ·obtain⟨_,q⟩:=x a _ r
  exact q
def Mut:Option HO→Prop
 | some (.lst _)=>True
 | some (.dK _)=>True
 | some (.dT _)=>True
 | some (.set _ _)=>True
 | some (.ins _ _ _)=>True
 | some (.ext _)=>True
 | _=>False
section
variable {P:Program} {w:World} {H:Hp} {h h':Heap} {x e:Addr} {o':HO}
theorem HOk.write (ok:HOk P w H h) (mu:Mut (H x)) (he:e=x∨H e=some (.own x)) (k:∀ b u,b≠e→h.get? b=some u→h'.get? b=some u) (heo:∃ u,h'.get? e=some u)
  (new:ObjOk P w (upd H x o') h' x o'):HOk P w (upd H x o') h':=fun b u q=>by
 have nown:∀ c y,H c=some (.own y)→c≠x:=fun c y r z=>by subst z; rw [r] at mu; exact mu
 have ntup:∀ c xs,H c=some (.tup xs)→c≠x:=fun c xs r z=>by subst z; rw [r] at mu; exact mu
 by_cases hb:b=x
 ·subst hb; rw [upd_same] at q; cases q; exact new
 ·rw [upd_ne hb] at q
  by_cases hbe:b=e
  ·have q':H b=some (.own x):=by
    rcases he with z | z
    ·exact absurd (hbe.trans z) hb
    ·rw [hbe]; exact z
   rw [q] at q'; cases q'
   obtain⟨v,hv⟩:=heo
   exact⟨v,by rw [hbe]; exact hv⟩
  ·refine(ok b u q).stay (fun c v hc r=>k c v ?_ r) (fun c r=>by rw [upd_ne (nown c b r)]; exact r) fun c xs r=>by rw [upd_ne (ntup c xs r)]; exact r
   rcases hc with rfl | hc
   ·exact hbe
   ·rintro rfl
    rcases he with z | z
    ·exact nown c b hc z
    ·rw [hc] at z; cases z; exact hb rfl
end
structure Un (fs ex:List Addr) (H H':Hp) (h h':Heap):Prop where
 keep:∀ b o,h.get? b=some o→H b=none→b∉fs→b∉ex→h'.get? b=some o
 slot:∀ b o,h.get? b=some o→H b=none→b∈fs→b∉ex→∃ sl,h'.get? b=some {o with slots:=sl}
 free:∀ b o,h.get? b=some o→H b=none→b∉ex→H' b=none
 there:∀ b o,h.get? b=some o→b∉ex→∃ o',h'.get? b=some o'
 tups:∀ b xs,H b=some (.tup xs)→H' b=some (.tup xs)
 frzs:∀ b o u,H b=some (.frz o u)→H' b=some (.frz o u)
 tbls:∀ b ps,H b=some (.tbl ps)→∃ more,H' b=some (.tbl (ps++more))
section
variable {fs fs' ex ex':List Addr} {H H1 H2:Hp} {h h1 h2 h':Heap} {a x e:Addr} {o:HO}
theorem Un.any (u:Un fs ex H H1 h h1) {b:Addr} {ob:Obj} (q:h.get? b=some ob) (n:H b=none) (hx:b∉ex):∃ sl,h1.get? b=some {ob with slots:=sl}:=by
 by_cases hb:b∈fs
 ·exact u.slot b ob q n hb hx
 ·exact⟨ob.slots,u.keep b ob q n hb hx⟩
theorem Un.kept (k:∀ b u,h.get? b=some u→h'.get? b=some u):Un fs ex H H h h':=
 ⟨fun b ob q _ _ _=>k b ob q,fun b ob q _ _ _=>⟨ob.slots,k b ob q⟩,fun _ _ _ n _=>n,fun b ob q _=>⟨ob,k b ob q⟩,fun _ _ q=>q,fun _ _ _ q=>q,fun _ ps q=>⟨#[],by rw [q]; simp⟩⟩
theorem Un.refl:Un fs ex H H h h:=Un.kept fun _ _ q=>q
theorem Un.laid (k:∀ b u,h.get? b=some u→h'.get? b=some u) (hp:h.objs.size≤a) (hn:H a=none):Un fs ex H (upd H a o) h h' where
 keep:=fun b u q _ _ _=>k b u q
 slot:=fun b u q _ _ _=>⟨u.slots,k b u q⟩
 free:=fun b u q n _=>by rw [upd_ne (Nat.ne_of_lt (Nat.lt_of_lt_of_le (Heap.lt_size q) hp))]; exact n
 there:=fun b u q _=>⟨u,k b u q⟩
 tups:=fun b xs q=>by rw [upd_ne (ne_of_none q hn)]; exact q
 frzs:=fun b u xs q=>by rw [upd_ne (ne_of_none q hn)]; exact q
 tbls:=fun b ps q=>⟨#[],by rw [upd_ne (ne_of_none q hn),q]; simp⟩
theorem Un.write (mu:Mut (H x)) (he:e=x∨H e=some (.own x)) (k:∀ b u,b≠e→h.get? b=some u→h'.get? b=some u) (heo:∃ u,h'.get? e=some u):Un fs ex H (upd H x o) h h':=by
 have hx:∀ b,H b=none→b≠x:=fun b n z=>by subst z; rw [n] at mu; exact mu
 have hb:∀ b,H b=none→b≠e:=fun b n z=>by
  subst z
  rcases he with r | r
  ·exact hx b n r
  ·rw [n] at r; cases r
 have hm:∀ b u,H b=some u→¬ Mut (some u)→b≠x:=fun b u q nm z=>by subst z; rw [q] at mu; exact nm mu
 refine⟨fun b u q n _ _=>k b u (hb b n) q,fun b u q n _ _=>⟨u.slots,k b u (hb b n) q⟩,fun b u q n _=>by rw [upd_ne (hx b n)]; exact n,fun b u q _=>?_,
  fun b xs q=>by rw [upd_ne (hm b _ q fun z=>z)]; exact q,fun b u xs q=>by rw [upd_ne (hm b _ q fun z=>z)]; exact q,fun b ps q=>⟨#[],by rw [upd_ne (hm b _ q fun z=>z),q]; simp⟩⟩
 by_cases hbe:b=e
 ·subst hbe; exact heo
 ·exact⟨u,k b u hbe q⟩
end
def trk (h:Heap) (H:Hp):List Addr:=(List.range h.objs.size).filter fun a=>(H a).isSome
def hidT (h:Heap) (H:Hp):Heap:=PySem.W.hideAll h (trk h H)
theorem hidT_size (h:Heap) (H:Hp):(hidT h H).objs.size=h.objs.size:=PySem.W.hideAll_size _ _
theorem hidT_get {h:Heap} {H:Hp} {b:Addr} {o:Obj} (e:h.get? b=some o) (n:H b=none):(hidT h H).get? b=some o:=
 PySem.W.hideAll_get _ e fun hm=>by
  have q:(H b).isSome=true:=(List.mem_filter.mp hm).2
  rw [n] at q; simp at q
theorem of_hidT {h:Heap} {H:Hp} {b:Addr} {o:Obj} (e:(hidT h H).get? b=some o):h.get? b=some o∧H b=none:=by
 have e':h.get? b=some o:=PySem.W.of_hideAll (trk h H) e
 refine⟨e',?_⟩
 cases q:H b with
 | none=>rfl
 | some x=>
  have hm:b∈trk h H:=List.mem_filter.mpr ⟨List.mem_range.mpr (Heap.lt_size e'),by simp [q]⟩
  have z:(hidT h H).get? b=none:=PySem.W.hideAll_none (trk h H) hm
  rw [z] at e; cases e
def allNews (g h:Heap) (L:Addr):List (Addr×Obj):=(List.range h.objs.size).filterMap fun a=>if a=L∨(g.get? a).isSome=true then none else (h.get? a).map fun o=>(a,o)
def rest (g h:Heap) (L d:Addr):List (Addr×Obj):=(allNews g h L).filter fun p=>decide (p.1≠d)
structure Mod (K:PySem.W.Frag) (mg:Str→Option Value) (base:Heap):Prop where
 kin:K.In base
 glob:base.Ns mainGlobals mg
 blt:∃ mb,base.Ns builtinsNs mb∧∀ x:Str,x≠"__name__"→mb x=bootBuiltins x
 nolimit:base.NoLimit
 sys:∃ mm,base.Ns sysModules mm
structure Cx where
 prog:Program
 w:World
 K:PySem.W.Frag
 mg:Str→Option Value
 base:Heap
 A:Around
 N:List Str
 s₀:Shared
 H₀:Hp
 env:Env
 outer:List Env
 stack:List Env
 ex:List Addr
 fn:Str→Bool
 calm:Bool
 pn:List (Addr×Obj)
 xe:Value→Shared→Prop
def frs (l:List Env):List Addr:=l.filterMap (·.frame)
abbrev Cx.fs (X:Cx):List Addr:=frs X.outer
def Vis (sc:Scope) (x:Str):Prop:=sc.names.lookup x=some .local∨sc.names.lookup x=some .cell∨sc.names.lookup x=some .free
def Loc (sc:Scope) (x:Str):Prop:=sc.names.lookup x=some .local∨sc.names.lookup x=some .cell
def Look (env:Env) (h:Heap) (m:Str→Option Value) (x:Str) (u:Value):Prop:=
 (env.kindOf x=some .local∧m x=some u)∨((env.kindOf x=some .cell∨env.kindOf x=some .free)∧∃ c,env.cells.lookup x=some c∧h.IsCell c (some u))
structure Cx.Ok (X:Cx):Prop where
 mod:Mod X.K X.mg X.base
 kind:X.env.scope.kind=.function
 glob:X.env.globals=mainGlobals
 blt:X.env.builtins=builtinsNs
 above:X.s₀.heap.objs.size≤X.env.locals
 inj:∀ x y c,X.env.cells.lookup x=some c→X.env.cells.lookup y=some c→x=y
 has:∀ x,(X.env.kindOf x=some .cell∨X.env.kindOf x=some .free)→∃ c,X.env.cells.lookup x=some c
 cab:∀ x c,X.fn x=true→X.env.cells.lookup x=some c→X.s₀.heap.objs.size≤c
 hd:X.calm=true→X.A.handled=none
 frames:X.A.frames=some X.stack
 stk:X.stack=X.outer∨(X.stack=X.env::X.outer∧X.env.frame=some X.env.locals)
 exf:∀ b∈X.ex,b≠X.env.locals∧∀ x c,X.env.cells.lookup x=some c→c≠b
 bs:∀ b o,X.base.get? b=some o→X.s₀.heap.get? b=some o∧X.H₀ b=none
 bsz:X.base.objs.size≤X.s₀.heap.objs.size
 noex:∀ b o,X.base.get? b=some o→b∉X.ex
 exfs:∀ b∈X.ex,b∉X.fs
 funs:X.s₀.heap.FunFrames X.base X.outer
 frf:∀ b∈X.fs,X.H₀ b=none
structure Inv (X:Cx) (pins:List (Addr×Obj)) (σ:List (Option V)) (H:Hp) (s:Shared):Prop where
 ok:X.Ok
 os:s.os=X.s₀.os
 bare:AllBare s.gens
 base:Un X.fs X.ex X.H₀ H X.s₀.heap s.heap
 loc:∃ m,s.heap.Ns X.env.locals m∧∀ (i:Nat) (x:Str) (v:V),X.N[i]? = some x→σ[i]? = some (some v)→Vis X.env.scope x→∃ u,RelV v u∧Look X.env s.heap m x u
 cell:∀ x c,X.env.cells.lookup x=some c→∃ v,s.heap.IsCell c v
 free:H X.env.locals=none
 freeC:∀ x c,X.env.cells.lookup x=some c→H c=none
 pin:∀ p∈X.pn++pins,s.heap.get? p.1=some p.2∧H p.1=none∧p.1≠X.env.locals∧p.1∉X.fs∧∀ v,p.2.data≠.cell v
 hok:HOk X.prog X.w H s.heap
 len:σ.length=X.N.length
section
variable {X:Cx} {pins:List (Addr×Obj)} {σ:List (Option V)} {H H':Hp} {s:Shared} {h':Heap}
theorem Cx.Ok.nofr (ok:X.Ok) {b:Addr} {o:Obj} (e:X.base.get? b=some o):b∉X.fs:=fun hb=>by
 have:=(ok.funs.mem hb).1
 rw [e] at this; cases this
theorem Inv.bs (I:Inv X pins σ H s):∀ b o,X.base.get? b=some o→s.heap.get? b=some o∧H b=none:=fun b o e=>
 ⟨I.base.keep b o (I.ok.bs b o e).1 (I.ok.bs b o e).2 (I.ok.nofr e) (I.ok.noex b o e),I.base.free b o (I.ok.bs b o e).1 (I.ok.bs b o e).2 (I.ok.noex b o e)⟩
theorem Inv.bk (I:Inv X pins σ H s):∀ b o,X.base.get? b=some o→s.heap.get? b=some o:=fun b o e=>(I.bs b o e).1
theorem Inv.mod (I:Inv X pins σ H s):Mod X.K X.mg X.base:=I.ok.mod
theorem Inv.kIn (I:Inv X pins σ H s):X.K.In s.heap:=I.ok.mod.kin.keeps I.bk
theorem Inv.lt (I:Inv X pins σ H s):X.env.locals<s.heap.objs.size:=let ⟨_,hn,_⟩:=I.loc; hn.lt
theorem Inv.sz (I:Inv X pins σ H s):X.s₀.heap.objs.size≤s.heap.objs.size:=Nat.le_trans I.ok.above (Nat.le_of_lt I.lt)
theorem Inv.nofs (I:Inv X pins σ H s) {a:Addr} (h:s.heap.objs.size≤a):a∉X.fs:=fun hb=>by
 obtain⟨_,o,ho,_⟩:=I.ok.funs.mem hb
 exact absurd (Nat.lt_of_lt_of_le (Heap.lt_size ho) (Nat.le_trans I.sz h)) (Nat.lt_irrefl _)
theorem Inv.cne (I:Inv X pins σ H s):∀ x c,X.env.cells.lookup x=some c→c≠X.env.locals:=fun x c e z=>by
 obtain⟨v,o,ho,hd⟩:=I.cell x c e
 obtain⟨m,⟨o',es,ep,ho',hd',_⟩,_⟩:=I.loc
 rw [z,ho'] at ho; cases ho; rw [hd'] at hd; cases hd
theorem Inv.funs (I:Inv X pins σ H s):s.heap.FunFrames X.base X.outer:=by
 have all:∀ (l:List Env),(∀ b∈frs l,b∈X.fs)→X.s₀.heap.FunFrames X.base l→s.heap.FunFrames X.base l:=by
  intro l
  induction l with
  | nil=>intro _ _; trivial
  | cons env r ih=>
   intro hs hl
   obtain⟨hk,⟨L,o,hf,hn,ho,hd⟩,hr⟩:=hl
   have hL:L∈X.fs:=hs L (by unfold frs; rw [List.filterMap_cons,hf]; exact List.mem_cons_self)
   obtain⟨sl,e⟩:=I.base.slot L o ho (I.ok.frf L hL) hL fun z=>I.ok.exfs L z hL
   exact⟨hk,⟨L,_,hf,hn,e,hd⟩,ih (fun b hb=>hs b (by unfold frs; rw [List.filterMap_cons,hf]; exact List.mem_cons_of_mem _ hb)) hr⟩
 exact all X.outer (fun _ hb=>hb) I.ok.funs
theorem Inv.stack (I:Inv X pins σ H s):s.heap.FunFrames X.base X.stack:=by
 rcases I.ok.stk with e | ⟨e,hf⟩
 ·rw [e]; exact I.funs
 ·rw [e]
  obtain⟨m,hn,_⟩:=I.loc
  refine .cons (by rw [I.ok.kind]; decide) hf hn ?_ I.funs
  exact Heap.get?_none_of_le (Nat.le_trans I.ok.bsz I.ok.above)
theorem Inv.stkSub (I:Inv X pins σ H s):∀ b∈frs X.stack,b∈X.env.locals::X.fs:=fun b hb=>by
 rcases I.ok.stk with e | ⟨e,hf⟩
 ·rw [e] at hb; exact List.mem_cons_of_mem _ hb
 ·rw [e] at hb
  unfold frs at hb
  rw [List.filterMap_cons,hf] at hb
  exact hb
theorem Inv.stkFree (I:Inv X pins σ H s):∀ b∈frs X.stack,H b=none:=fun b hb=>by
 rcases List.mem_cons.mp (I.stkSub b hb) with e | hb
 ·rw [e]; exact I.free
 ·obtain⟨_,o,ho,_⟩:=I.ok.funs.mem hb
  exact I.base.free b o ho (I.ok.frf b hb) fun z=>I.ok.exfs b z hb
theorem Inv.step {g':Array GenState} {t':Nat} {d':Drawn} {ch:List Addr} (I:Inv X pins σ H s)
  (hch:∀ b∈ch,(b∈X.ex∨X.s₀.heap.objs.size≤b)∧b≠X.env.locals∧(∀ x c,X.env.cells.lookup x=some c→c≠b)∧∀ p∈X.pn++pins,p.1≠b)
  (keep:∀ b o,b≠X.env.locals→b∉X.fs→b∉ch→s.heap.get? b=some o→H b=none→h'.get? b=some o)
  (slot:∀ b o,b≠X.env.locals→b∈X.fs→b∉ch→s.heap.get? b=some o→H b=none→∃ sl,h'.get? b=some {o with slots:=sl}) (free:∀ b o,b∉ch→s.heap.get? b=some o→H b=none→H' b=none)
  (there:∀ b o,b∉ch→s.heap.get? b=some o→∃ o',h'.get? b=some o')
  (tups:∀ b xs,H b=some (.tup xs)→H' b=some (.tup xs)) (frzs:∀ b o u,H b=some (.frz o u)→H' b=some (.frz o u)) (tbls:∀ b ps,H b=some (.tbl ps)→∃ more,H' b=some (.tbl (ps++more)))
  (ns:∀ m,s.heap.Ns X.env.locals m→h'.Ns X.env.locals m) (hok:HOk X.prog X.w H' h') (hg:AllBare g') :
  Inv X pins σ H' {s with heap:=h',gens:=g',drawn:=d',toks:=t'}:=by
 have neL:∀ b o,X.s₀.heap.get? b=some o→b≠X.env.locals:=fun b o e=>Nat.ne_of_lt (Nat.lt_of_lt_of_le (Heap.lt_size e) I.ok.above)
 have neC:∀ b o,X.s₀.heap.get? b=some o→b∉X.ex→b∉ch:=fun b o e hx hb=>by
  rcases(hch b hb).1 with z | z
  ·exact hx z
  ·exact absurd (Nat.lt_of_lt_of_le (Heap.lt_size e) z) (Nat.lt_irrefl _)
 have cellK:∀ x c,X.env.cells.lookup x=some c→∀ v,s.heap.IsCell c v→h'.IsCell c v:=fun x c e v ⟨o,ho,hd⟩=>by
  have nch:c∉ch:=fun z=>(hch c z).2.2.1 x c e rfl
  by_cases hc:c∈X.fs
  ·obtain⟨sl,q⟩:=slot c o (I.cne x c e) hc nch ho (I.freeC x c e)
   exact⟨_,q,hd⟩
  ·exact⟨o,keep c o (I.cne x c e) hc nch ho (I.freeC x c e),hd⟩
 refine⟨I.ok,I.os,hg,⟨fun b o e n hb hx=>?_,fun b o e n hb hx=>?_,fun b o e n hx=>?_,fun b o e hx=>?_,fun b xs e=>tups b xs (I.base.tups b xs e),fun b o xs e=>frzs b o xs (I.base.frzs b o xs e),fun b ps e=>?_⟩,?_,fun x c e=>?_,?_,fun x c e=>?_,fun p hp=>?_,hok,I.len⟩
 ·exact keep b o (neL b o e) hb (neC b o e hx) (I.base.keep b o e n hb hx) (I.base.free b o e n hx)
 ·obtain⟨sl,e1⟩:=I.base.slot b o e n hb hx
  obtain⟨sl',e2⟩:=slot b _ (neL b o e) hb (neC b o e hx) e1 (I.base.free b o e n hx)
  exact⟨sl',e2⟩
 ·obtain⟨o',e1⟩:=I.base.there b o e hx
  exact free b o' (neC b o e hx) e1 (I.base.free b o e n hx)
 ·obtain⟨o',e1⟩:=I.base.there b o e hx
  exact there b o' (neC b o e hx) e1
 ·obtain⟨m1,e1⟩:=I.base.tbls b ps e
  obtain⟨m2,e2⟩:=tbls b _ e1
  exact⟨m1++m2,by rw [e2,Array.append_assoc]⟩
 ·obtain⟨m,hn,hl⟩:=I.loc
  refine⟨m,ns m hn,fun i x v e1 e2 e3=>?_⟩
  obtain⟨u,r,l⟩:=hl i x v e1 e2 e3
  refine⟨u,r,?_⟩
  rcases l with l | ⟨k,c,e,z⟩
  ·exact .inl l
  ·exact .inr ⟨k,c,e,cellK x c e _ z⟩
 ·obtain⟨v,z⟩:=I.cell x c e
  exact⟨v,cellK x c e v z⟩
 ·obtain⟨m,⟨o,_,_,ho,_⟩,_⟩:=I.loc
  exact free _ o (fun z=>(hch _ z).2.1 rfl) ho I.free
 ·obtain⟨v,o,ho,hd⟩:=I.cell x c e
  exact free c o (fun z=>(hch c z).2.2.1 x c e rfl) ho (I.freeC x c e)
 ·obtain⟨e,n,ne,nf,d⟩:=I.pin p hp
  have nch:p.1∉ch:=fun z=>(hch p.1 z).2.2.2 p hp rfl
  exact⟨keep p.1 p.2 ne nf nch e n,free p.1 p.2 nch e n,ne,nf,d⟩
theorem Inv.un {t':Nat} (I:Inv X pins σ H s) (u:Un X.fs [] H H' s.heap h') (hok:HOk X.prog X.w H' h'):Inv X pins σ H' {s with heap:=h',toks:=t'}:=by
 obtain⟨m,⟨o,es,ep,ho,r⟩,_⟩:=id I.loc
 obtain⟨sl,hL⟩:=u.any ho I.free (by simp)
 exact I.step (g':=s.gens) (d':=s.drawn) (ch:=[]) (fun _ z=>nomatch z) (fun b o _ hb _ e n=>u.keep b o e n hb (by simp)) (fun b o _ hb _ e n=>u.slot b o e n hb (by simp)) (fun b o _ e n=>u.free b o e n (by simp)) (fun b o _ e=>u.there b o e (by simp)) u.tups u.frzs u.tbls (fun m' hm=>by
  obtain⟨o',es',ep',ho',r'⟩:=hm
  rw [ho] at ho'; cases ho'
  exact⟨_,es',ep',hL,r'⟩) hok I.bare
theorem Inv.call {g':Array GenState} {t':Nat} {d':Drawn} {ch:List Addr} (I:Inv X pins σ H s) (u:Un (frs X.stack) ch H H' s.heap h') (hok:HOk X.prog X.w H' h') (hg:AllBare g')
  (hch:∀ b∈ch,(b∈X.ex∨X.s₀.heap.objs.size≤b)∧b≠X.env.locals∧(∀ x c,X.env.cells.lookup x=some c→c≠b)∧∀ p∈X.pn++pins,p.1≠b) :
  Inv X pins σ H' {s with heap:=h',gens:=g',drawn:=d',toks:=t'}:=by
 obtain⟨m,⟨o,es,ep,ho,r⟩,_⟩:=id I.loc
 obtain⟨sl,hL⟩:=u.any ho I.free fun z=>(hch _ z).2.1 rfl
 exact I.step (ch:=ch) hch (fun b o hL hb hc e n=>u.keep b o e n (fun z=>(List.mem_cons.mp (I.stkSub b z)).elim hL hb) hc) (fun b o _ _ hc e n=>u.any e n hc) (fun b o hc e n=>u.free b o e n hc) (fun b o hc e=>u.there b o e hc) u.tups u.frzs u.tbls (fun m' hm=>by
  obtain⟨o',es',ep',ho',r'⟩:=hm
  rw [ho] at ho'; cases ho'
  exact⟨_,es',ep',hL,r'⟩) hok hg
theorem Inv.turned {t':Nat} {it:Addr} (I:Inv X pins σ H s) (k:∀ b o,b≠it→s.heap.get? b=some o→h'.get? b=some o) (hn:H it=none) (hL:it≠X.env.locals)
  (h1:it∈X.ex∨X.s₀.heap.objs.size≤it) (h2:∀ x c,X.env.cells.lookup x=some c→c≠it) (h3:∀ p∈X.pn++pins,p.1≠it):Inv X pins σ H {s with heap:=h',toks:=t'}:=by
 have nit:∀ b u,H b=some u→b≠it:=fun b u e z=>by rw [z,hn] at e; cases e
 refine I.step (g':=s.gens) (d':=s.drawn) (ch:=[it]) (fun b hb=>?_) (fun b o _ _ hc e _=>k b o (fun z=>hc (by simp [z])) e) (fun b o _ _ hc e _=>⟨o.slots,k b o (fun z=>hc (by simp [z])) e⟩) (fun _ _ _ _ n=>n)
  (fun b o hc e=>⟨o,k b o (fun z=>hc (by simp [z])) e⟩) (fun _ _ e=>e) (fun _ _ _ e=>e) (fun b ps e=>⟨#[],by rw [e]; simp⟩) (fun m hm=>?_) (fun b u e=>?_) I.bare
 ·have e:b=it:=by simpa using hb
  subst e
  exact⟨h1,hL,h2,h3⟩
 ·obtain⟨o,es,ep,ho,r⟩:=hm
  exact⟨o,es,ep,k _ o (Ne.symm hL) ho,r⟩
 ·refine(I.hok b u e).stay (fun c v hc q=>k c v ?_ q) (fun _ q=>q) fun _ _ q=>q
  rcases hc with z | z
  ·rw [z]; exact nit b u e
  ·exact nit c _ z
theorem Inv.tok (I:Inv X pins σ H s) (t:Nat):Inv X pins σ H {s with toks:=t}:=I.un (h':=s.heap) (t':=t) Un.refl I.hok
theorem Inv.kept {t':Nat} (I:Inv X pins σ H s) (k:∀ b u,s.heap.get? b=some u→h'.get? b=some u):Inv X pins σ H {s with heap:=h',toks:=t'}:=I.un (Un.kept k) (I.hok.kept k)
theorem Inv.laid {a:Addr} {o:HO} {t':Nat} (I:Inv X pins σ H s) (k:∀ b u,s.heap.get? b=some u→h'.get? b=some u) (hp:s.heap.objs.size≤a) (new:ObjOk X.prog X.w (upd H a o) h' a o) :
  Inv X pins σ (upd H a o) {s with heap:=h',toks:=t'}:=I.un (Un.laid k hp (I.hok.fresh hp)) (I.hok.laid k hp new)
theorem Inv.write {x e:Addr} {o:HO} {t':Nat} (I:Inv X pins σ H s) (mu:Mut (H x)) (he:e=x∨H e=some (.own x)) (k:∀ b u,b≠e→s.heap.get? b=some u→h'.get? b=some u) (heo:∃ u,h'.get? e=some u)
  (new:ObjOk X.prog X.w (upd H x o) h' x o):Inv X pins σ (upd H x o) {s with heap:=h',toks:=t'}:=I.un (Un.write mu he k heo) (I.hok.write mu he k heo new)
theorem Inv.pins_of {pins':List (Addr×Obj)} (I:Inv X pins σ H s) (h:∀ p∈pins',s.heap.get? p.1=some p.2∧H p.1=none∧p.1≠X.env.locals∧p.1∉X.fs∧∀ v,p.2.data≠.cell v):Inv X pins' σ H s:=
 ⟨I.ok,I.os,I.bare,I.base,I.loc,I.cell,I.free,I.freeC,fun p hp=>(List.mem_append.mp hp).elim (fun z=>I.pin p (List.mem_append_left _ z)) (h p),I.hok,I.len⟩
theorem nodup_ix {N:List Str} (hN:N.Nodup) {i j:Nat} {x:Str} (a:N[i]? = some x) (b:N[j]? = some x):i=j:=by
 obtain⟨h1,e1⟩:=List.getElem?_eq_some_iff.mp a
 obtain⟨h2,e2⟩:=List.getElem?_eq_some_iff.mp b
 exact(List.getElem_inj hN).mp (e1.trans e2.symm)
theorem store_ok2 {M:Model} {A:Around} {E:Value→Shared→Prop} {i:Nat} {x:Str} {v:V} {u:Value} {Q:Unit→Shared→Prop} (I:Inv X pins σ H s) (hN:X.N.Nodup) (hi:X.N[i]? = some x) (hx:Loc X.env.scope x) (r:RelV v u)
  (h:∀ s',Inv X pins (σ.set i (some v)) H s'→(∃ a,Heap.SameBut a s.heap s'.heap∧(a=X.env.locals∨X.env.cells.lookup x=some a))→Q () s') (hf:X.fn x=true∨X.env.scope.names.lookup x=some .local:=by first | exact .inl rfl | exact .inr rfl | assumption):wpAny M A (storeName X.env x u) Q E s:=by
 obtain⟨m,hn,hl⟩:=id I.loc
 have hcls:(X.env.scope.kind==.class||(X.env.scope.kind==.module&&X.env.locals != X.env.globals))=false:=by rw [I.ok.kind]; rfl
 have hiσ:i<σ.length:=by rw [I.len]; exact(List.getElem?_eq_some_iff.mp hi).1
 have cne:=I.cne
 have tracked:∀ {a:Addr} {h':Heap},(∃ o,s.heap.get? a=some o∧H a=none)→Heap.SameBut a s.heap h'→HOk X.prog X.w H h':=fun {a h'} ha hs b ob e=>by
  obtain⟨_,_,hfree⟩:=ha
  refine(I.hok b ob e).stay (fun c w' hc q=>(hs.2 c ?_).trans q) (fun _ q=>q) fun _ _ q=>q
  rintro rfl
  rcases hc with rfl | hc
  ·rw [hfree] at e; cases e
  ·rw [hfree] at hc; cases hc
 rcases hx with hk | hk
 ·refine wpAny_storeName_local hk hn (fun h' hn' hs=>?_) hcls
  obtain⟨oL,_,_,hoL,_⟩:=id hn
  refine h _ ⟨I.ok,I.os,I.bare,⟨fun b o e n hb hx=>?_,fun b o e n hb hx=>?_,I.base.free,fun b o e hx=>?_,I.base.tups,I.base.frzs,I.base.tbls⟩,⟨_,hn',fun j y v' e1 e2 e3=>?_⟩,fun y c e=>?_,I.free,I.freeC,fun p hp=>?_,tracked ⟨oL,hoL,I.free⟩ hs,by simpa using I.len⟩ ⟨_,hs,.inl rfl⟩
  ·exact(hs.2 b (Nat.ne_of_lt (Nat.lt_of_lt_of_le (Heap.lt_size e) I.ok.above))).trans (I.base.keep b o e n hb hx)
  ·obtain⟨sl,e1⟩:=I.base.slot b o e n hb hx
   exact⟨sl,(hs.2 b (Nat.ne_of_lt (Nat.lt_of_lt_of_le (Heap.lt_size e) I.ok.above))).trans e1⟩
  ·obtain⟨o',e1⟩:=I.base.there b o e hx
   exact⟨o',(hs.2 b (Nat.ne_of_lt (Nat.lt_of_lt_of_le (Heap.lt_size e) I.ok.above))).trans e1⟩
  ·by_cases hj:j=i
   ·subst hj
    rw [hi] at e1; cases e1
    rw [List.getElem?_set_self hiσ] at e2
    cases e2
    exact⟨u,r,.inl ⟨hk,by simp⟩⟩
   ·rw [List.getElem?_set_ne (Ne.symm hj)] at e2
    obtain⟨u',r',q⟩:=hl j y v' e1 e2 e3
    refine⟨u',r',?_⟩
    rcases q with ⟨k,e⟩ | ⟨k,c,e,z⟩
    ·refine .inl ⟨k,?_⟩
     have : y≠x:=fun e=>hj (nodup_ix hN e1 (e▸hi))
     simp [this,e]
    ·exact .inr ⟨k,c,e,z.sameBut hs (cne y c e)⟩
  ·obtain⟨w',z⟩:=I.cell y c e
   exact⟨w',z.sameBut hs (cne y c e)⟩
  ·obtain⟨e,n,ne,nf,d⟩:=I.pin p hp
   exact⟨(hs.2 p.1 ne).trans e,n,ne,nf,d⟩
 ·have hfn:X.fn x=true:=by
   rcases hf with z | z
   ·exact z
   ·rw [z] at hk; cases hk
  obtain⟨c,hc⟩:=I.ok.has x (.inl hk)
  obtain⟨w',z⟩:=I.cell x c hc
  refine wpAny_storeName_cell I.ok.kind hk hc z (fun h' hc' hs=>?_)
  obtain⟨oc,hoc,hocd⟩:=id z
  refine h {s with heap:=h'} ⟨I.ok,I.os,I.bare,⟨fun b o e n hb hx=>?_,fun b o e n hb hx=>?_,I.base.free,fun b o e hx=>?_,I.base.tups,I.base.frzs,I.base.tbls⟩,⟨m,hn.sameBut hs (Ne.symm (cne x c hc)),fun j y v' e1 e2 e3=>?_⟩,fun y c' e=>?_,I.free,I.freeC,fun p hp=>?_,tracked ⟨oc,hoc,I.freeC x c hc⟩ hs,by simpa using I.len⟩ ⟨c,hs,.inr hc⟩
  ·exact(hs.2 b (Nat.ne_of_lt (Nat.lt_of_lt_of_le (Heap.lt_size e) (I.ok.cab x c hfn hc)))).trans (I.base.keep b o e n hb hx)
  ·obtain⟨sl,e1⟩:=I.base.slot b o e n hb hx
   exact⟨sl,(hs.2 b (Nat.ne_of_lt (Nat.lt_of_lt_of_le (Heap.lt_size e) (I.ok.cab x c hfn hc)))).trans e1⟩
  ·obtain⟨o',e1⟩:=I.base.there b o e hx
   exact⟨o',(hs.2 b (Nat.ne_of_lt (Nat.lt_of_lt_of_le (Heap.lt_size e) (I.ok.cab x c hfn hc)))).trans e1⟩
  ·by_cases hj:j=i
   ·subst hj
    rw [hi] at e1; cases e1
    rw [List.getElem?_set_self hiσ] at e2
    cases e2
    exact⟨u,r,.inr ⟨.inl hk,c,hc,hc'⟩⟩
   ·rw [List.getElem?_set_ne (Ne.symm hj)] at e2
    obtain⟨u',r',q⟩:=hl j y v' e1 e2 e3
    refine⟨u',r',?_⟩
    rcases q with q | ⟨k,c',e,z'⟩
    ·exact .inl q
    ·refine .inr ⟨k,c',e,z'.sameBut hs ?_⟩
     rintro rfl
     exact hj (nodup_ix hN e1 (I.ok.inj _ _ _ e hc▸hi))
  ·by_cases hcc:c'=c
   ·subst hcc; exact⟨_,hc'⟩
   ·obtain⟨w2,z2⟩:=I.cell y c' e
    exact⟨w2,z2.sameBut hs hcc⟩
  ·obtain⟨e,n,ne,nf,d⟩:=I.pin p hp
   refine⟨(hs.2 p.1 ?_).trans e,n,ne,nf,d⟩
   intro q
   rw [q,hoc] at e
   have q':oc=p.2:=Option.some.inj e
   exact d w' (by rw [← q']; exact hocd)
theorem store_ok {M:Model} {A:Around} {E:Value→Shared→Prop} {i:Nat} {x:Str} {v:V} {u:Value} {Q:Unit→Shared→Prop} (I:Inv X pins σ H s) (hN:X.N.Nodup) (hi:X.N[i]? = some x) (hx:Loc X.env.scope x) (r:RelV v u)
  (h:∀ s',Inv X pins (σ.set i (some v)) H s'→Q () s') (hf:X.fn x=true∨X.env.scope.names.lookup x=some .local:=by first | exact .inl rfl | exact .inr rfl | assumption):wpAny M A (storeName X.env x u) Q E s:=
 store_ok2 I hN hi hx r (fun s' I' _=>h s' I') hf
theorem Inv.call' {s':Shared} {ch:List Addr} (I:Inv X pins σ H s) (ho:s'.os=s.os) (u:Un (frs X.stack) ch H H' s.heap s'.heap) (hok:HOk X.prog X.w H' s'.heap) (hg:AllBare s'.gens)
  (hch:∀ b∈ch,(b∈X.ex∨X.s₀.heap.objs.size≤b)∧b≠X.env.locals∧(∀ x c,X.env.cells.lookup x=some c→c≠b)∧∀ p∈X.pn++pins,p.1≠b):Inv X pins σ H' s':=by
 obtain⟨h',g',d',t',o'⟩:=s'
 have e:o'=s.os:=ho
 subst e
 exact I.call (g':=g') (t':=t') (d':=d') u hok hg hch
end
abbrev XK:=Value→Option Addr→Hp→Prop
abbrev St:=List (Option V)
abbrev VK:=V→Hp→Prop
abbrev TE:=St→Hp→VK→Prop
abbrev TT:=St→Hp→(Bool→Hp→Prop)→Prop
abbrev TA:=St→Hp→(List V→Hp→Prop)→Prop
structure Ends where
 nx:St→Hp→Prop
 rt:VK
 bk:St→Hp→Prop:=fun _ _=>False
 ct:St→Hp→Prop:=fun _ _=>False
abbrev TS:=Ends→St→Hp→Prop
def EP (X:Cx) (pins:List (Addr×Obj)) (σ:St) (Q:VK) (u:Value) (s':Shared):Prop:=∃ v H',Inv X pins σ H' s'∧RelV v u∧Q v H'
def TP (X:Cx) (pins:List (Addr×Obj)) (σ:St) (Q:Bool→Hp→Prop) (b:Bool) (s':Shared):Prop:=∃ H',Inv X pins σ H' s'∧Q b H'
def AP (X:Cx) (pins:List (Addr×Obj)) (σ:St) (Q:List V→Hp→Prop) (us:List Value) (s':Shared):Prop:=∃ vs H',Inv X pins σ H' s'∧Vals vs us∧Q vs H'
def SP (X:Cx) (pins:List (Addr×Obj)) (D:Ends) (f:Flow) (s':Shared):Prop:=
 match f with
 | .next=>∃ σ' H',Inv X pins σ' H' s'∧D.nx σ' H'
 | .brk=>∃ σ' H',Inv X pins σ' H' s'∧D.bk σ' H'
 | .cont=>∃ σ' H',Inv X pins σ' H' s'∧D.ct σ' H'
 | .ret u=>∃ v σ' H',Inv X pins σ' H' s'∧RelV v u∧D.rt v H'
def PE (X:Cx) (e:Expr) (t:TE):Prop:=
 ∀ (pins:List (Addr×Obj)) (s:Shared) (σ:St) (H:Hp) (Q:VK),Inv X pins σ H s→t σ H Q→wpAny (model X.prog X.w) X.A (eval e X.env) (EP X pins σ Q) X.xe s
def PT (X:Cx) (e:Expr) (t:TT):Prop:=
 ∀ (pins:List (Addr×Obj)) (s:Shared) (σ:St) (H:Hp) (Q:Bool→Hp→Prop),Inv X pins σ H s→t σ H Q→wpAny (model X.prog X.w) X.A (isTrue e X.env (eval e X.env)) (TP X pins σ Q) X.xe s
def PW (X:Cx) (e:Expr) (t:TT):Prop:=
 ∀ (whole:Sem Value) (pins:List (Addr×Obj)) (s:Shared) (σ:St) (H:Hp) (Q:Bool→Hp→Prop),Inv X pins σ H s→t σ H Q→wpAny (model X.prog X.w) X.A (isTrue e X.env whole) (TP X pins σ Q) X.xe s
theorem PW.pt {X:Cx} {e:Expr} {t:TT} (h:PW X e t):PT X e t:=h _
def PA (X:Cx) (es:List Expr) (t:TA):Prop:=
 ∀ (pos:Pos) (pins:List (Addr×Obj)) (s:Shared) (σ:St) (H:Hp) (Q:List V→Hp→Prop),Inv X pins σ H s→t σ H Q→wpAny (model X.prog X.w) X.A (spliced (backTo pos (starEach es X.env))) (AP X pins σ Q) X.xe s
def PS (X:Cx) (st:Stmt) (t:TS):Prop:=
 ∀ (pins:List (Addr×Obj)) (s:Shared) (σ:St) (H:Hp) (D:Ends),Inv X pins σ H s→t D σ H→wpAny (model X.prog X.w) X.A (exec st X.env) (SP X pins D) X.xe s
def PSs (X:Cx) (st:List Stmt) (t:TS):Prop:=
 ∀ (pins:List (Addr×Obj)) (s:Shared) (σ:St) (H:Hp) (D:Ends),Inv X pins σ H s→t D σ H→wpAny (model X.prog X.w) X.A (execs st X.env) (SP X pins D) X.xe s
theorem thn {α:Type} {t:Sem α} {Q Q':α→Shared→Prop} {M:Model} {A:Around} {E:Value→Shared→Prop} {s:Shared} (h:wpAny M A t Q E s) (hQ:∀ a s,Q a s→Q' a s):wpAny M A t Q' E s:=wpAny_mono h hQ fun _ _ x=>x
section
variable {X:Cx}
def tVar (i:Nat):TE:=fun σ H Q=>∃ v,σ[i]? = some (some v)∧Q v H
def tC (v:V):TE:=fun _ H Q=>Q v H
theorem pe_var {i:Nat} {x:Str} {pos:Pos} (hN:X.N[i]? = some x) (hv:Vis X.env.scope x) (hd:(x==("__debug__":Str))=false:=by decide) (hcd:(x==("__classdict__":Str))=false:=by decide):PE X (.Name x pos) (tVar i):=by
 intro pins s σ H Q I h
 obtain⟨v,e,h⟩:=h
 obtain⟨m,hn,hl⟩:=I.loc
 obtain⟨u,r,l⟩:=hl i x v hN e hv
 have fin:EP X pins σ Q u s:=⟨v,H,I,r,h⟩
 rcases l with ⟨hk,hm⟩ | ⟨hk,c,hc,hcell⟩
 ·exact wpAny_Name (wpAny_loadName_local I.ok.kind hk hn hm fin) hd
 ·rcases hk with hk | hk
  ·exact wpAny_Name (wpAny_loadName_cell I.ok.kind hk hc hcell fin) hd
  ·exact wpAny_Name (wpAny_loadName_free I.ok.kind hk hc hcell fin hcd) hd
theorem pe_int {i j pos}:PE X (.Constant (.int i) j pos) (tC (.int i)):=fun _ _ _ H _ I h=>wpAny_Constant_int ⟨.int i,H,I.tok _,⟨_,rfl⟩,h⟩
theorem pe_bl {b j pos}:PE X (.Constant (.bool b) j pos) (tC (.bl b)):=fun _ _ _ H _ I h=>Constant_bool ⟨.bl b,H,I,rfl,h⟩
theorem pe_non {j pos}:PE X (.Constant .none j pos) (tC .non):=fun _ _ _ H _ I h=>Constant_none ⟨.non,H,I,rfl,h⟩
theorem pe_str {x j pos}:PE X (.Constant (.str x) j pos) (tC (.str x)):=fun _ _ _ H _ I h=>Calls.Constant_str ⟨.str x,H,I.tok _,⟨_,rfl⟩,h⟩
def Gl (X:Cx) (x:Str):Prop:=X.env.kindOf x=some .globalImplicit
theorem ld_glob {E:Value→Shared→Prop} {pins:List (Addr×Obj)} {s:Shared} {σ:St} {H:Hp} {x:Str} {u:Value} {pos:Pos} {Q:Value→Shared→Prop} (I:Inv X pins σ H s) (hg:Gl X x) (hm:X.mg x=some u) (h:Q u s)
  (hd:(x==("__debug__":Str))=false:=by decide):wpAny (model X.prog X.w) X.A (eval (.Name x pos) X.env) Q E s:=
 Calls.Name_function_global I.ok.kind hg (Calls.loadGlobal_global (by rw [I.ok.glob]; exact I.mod.glob.keeps I.bk) hm h) hd
theorem ld_blt {E:Value→Shared→Prop} {pins:List (Addr×Obj)} {s:Shared} {σ:St} {H:Hp} {x:Str} {u:Value} {pos:Pos} {Q:Value→Shared→Prop} (I:Inv X pins σ H s) (hg:Gl X x) (hm:X.mg x=none) (hv:bootBuiltins x=some u) (h:Q u s)
  (hn:x≠"__name__":=by decide) (hd:(x==("__debug__":Str))=false:=by decide):wpAny (model X.prog X.w) X.A (eval (.Name x pos) X.env) Q E s:=by
 obtain⟨mb,h1,h2⟩:=I.mod.blt
 exact Calls.Name_function_global I.ok.kind hg (Calls.loadGlobal_builtin (by rw [I.ok.glob]; exact I.mod.glob.keeps I.bk) hm (by rw [I.ok.blt]; exact h1.keeps I.bk) ((h2 x hn).trans hv) h) hd
theorem pe_glob {x:Str} {v:V} {u:Value} {pos:Pos} (hg:Gl X x) (hm:X.mg x=some u) (r:RelV v u) (hd:(x==("__debug__":Str))=false:=by decide):PE X (.Name x pos) (tC v):=
 fun _ _ _ H _ I h=>ld_glob I hg hm ⟨v,H,I,r,h⟩ hd
theorem pe_bltn {x:Str} {v:V} {u:Value} {pos:Pos} (hg:Gl X x) (hm:X.mg x=none) (hv:bootBuiltins x=some u) (r:RelV v u) (hn:x≠"__name__":=by decide) (hd:(x==("__debug__":Str))=false:=by decide):PE X (.Name x pos) (tC v):=
 fun _ _ _ H _ I h=>ld_blt I hg hm hv ⟨v,H,I,r,h⟩ hn hd
variable {a b:Expr} {ta tb:TE} {pos:Pos}
def tB (t:TE):TT:=fun σ H Q=>t σ H fun x H1=>∃ c,x=.bl c∧Q c H1
theorem pt_val {e:Expr} {t:TE} (h:PE X e t) (he:∀ whole,isTrue e X.env whole=(do let v ← whole; standAt e.pos; holding [v] (truthy v)):=by intro _; rfl):PT X e (tB t):=by
 intro pins s σ H Q I hw
 refine isTrue_plain (thn (h pins s σ H _ I hw) fun v s1 ⟨x,H1,I1,r1,q1⟩=>?_) (he _)
 obtain⟨d,rfl,q⟩:=q1
 cases r1
 exact wpAny_truthy_bool ⟨H1,I1,q⟩
variable {tA tB':TT} {rest:List Expr}
def tAnd (t u:TT):TT:=fun σ H Q=>t σ H fun c H1=>if c=true then u σ H1 Q else Q false H1
def tOr (t u:TT):TT:=fun σ H Q=>t σ H fun c H1=>if c=true then Q true H1 else u σ H1 Q
def tNot (t:TT):TT:=fun σ H Q=>t σ H fun c H1=>Q (!c) H1
theorem pw_and1 (ha:PT X a tA):PW X (.BoolOp .And [a] pos) tA:=by
 intro wh pins s σ H Q I h
 refine isTrue_and (thn (ha pins s σ H Q I h) fun c s1 e=>?_)
 cases c with
 | true=>exact isTrue_and_nil e
 | false=>exact e
theorem pw_or1 (ha:PT X a tA):PW X (.BoolOp .Or [a] pos) tA:=by
 intro wh pins s σ H Q I h
 refine isTrue_or (thn (ha pins s σ H Q I h) fun c s1 e=>?_)
 cases c with
 | false=>exact isTrue_or_nil e
 | true=>exact e
theorem pw_and (ha:PT X a tA) (hb:PW X (.BoolOp .And (b::rest) pos) tB'):PW X (.BoolOp .And (a::b::rest) pos) (tAnd tA tB'):=by
 intro wh pins s σ H Q I h
 refine isTrue_and (thn (ha pins s σ H _ I h) fun c s1 ⟨H1,I1,q1⟩=>?_)
 cases c with
 | true=>exact hb wh pins s1 σ H1 Q I1 q1
 | false=>exact⟨H1,I1,q1⟩
theorem pw_or (ha:PT X a tA) (hb:PW X (.BoolOp .Or (b::rest) pos) tB'):PW X (.BoolOp .Or (a::b::rest) pos) (tOr tA tB'):=by
 intro wh pins s σ H Q I h
 refine isTrue_or (thn (ha pins s σ H _ I h) fun c s1 ⟨H1,I1,q1⟩=>?_)
 cases c with
 | true=>exact⟨H1,I1,q1⟩
 | false=>exact hb wh pins s1 σ H1 Q I1 q1
theorem pt_not (ha:PT X a tA):PT X (.UnaryOp .Not a pos) (tNot tA):=by
 intro pins s σ H Q I h
 exact isTrue_not (ha pins s σ H (fun c H1=>Q (!c) H1) I h)
def tAndV (ta tb:TE):TE:=fun σ H Q=>ta σ H fun x H1=>∃ c,x=.bl c∧if c=true then tb σ H1 Q else Q (.bl false) H1
def tNotV (ta:TE):TE:=fun σ H Q=>ta σ H fun x H1=>∃ c,x=.bl c∧Q (.bl (!c)) H1
theorem pe_one {op} {t:TE} (h:PE X a t):PE X (.BoolOp op [a] pos) t:=fun pins s σ H Q I hw=>BoolOp_one (h pins s σ H Q I hw)
theorem pe_and (ha:PE X a ta) (hb:PE X (.BoolOp .And (b::rest) pos) tb):PE X (.BoolOp .And (a::b::rest) pos) (tAndV ta tb):=by
 intro pins s σ H Q I h
 refine BoolOp_and (thn (ha pins s σ H _ I h) fun v s1 ⟨x,H1,I1,r1,q1⟩=>?_)
 obtain⟨c,rfl,q1⟩:=q1
 cases r1
 refine wpAny_truthy_bool ?_
 cases c with
 | true=>exact hb pins s1 σ H1 Q I1 q1
 | false=>exact⟨.bl false,H1,I1,rfl,q1⟩
theorem pe_not (ha:PE X a ta):PE X (.UnaryOp .Not a pos) (tNotV ta):=by
 intro pins s σ H Q I h
 refine UnaryOp_ (thn (ha pins s σ H _ I h) fun v s1 ⟨x,H1,I1,r1,q1⟩=>?_)
 obtain⟨c,rfl,q1⟩:=q1
 cases r1
 exact not_of (wpAny_truthy_bool ⟨.bl (!c),H1,I1,rfl,q1⟩)
def tIf (t:TT) (ta tb:TE):TE:=fun σ H Q=>t σ H fun c H1=>if c=true then ta σ H1 Q else tb σ H1 Q
theorem pe_ifExp {c:Expr} (hc:PT X c tA) (ha:PE X a ta) (hb:PE X b tb):PE X (.IfExp c a b pos) (tIf tA ta tb):=by
 intro pins s σ H Q I h
 refine wpAny_IfExp (thn (hc pins s σ H _ I h) fun d s1 ⟨H1,I1,q1⟩=>?_)
 cases d with
 | true=>exact ha pins s1 σ H1 Q I1 q1
 | false=>exact hb pins s1 σ H1 Q I1 q1
end
def SqL (K:PySem.W.Frag) (H:Hp) (a:Addr) (xs:List V):Prop:=
 Rd H a (.lst xs)∨
  ∃ (o:Obj) (its:Array Value) (n:Nat),K.lookup a=some o∧o.cls=.type "list"∧o.dict=none∧o.data=.seq its n∧its.size≤sizeLine∧Vals xs its.toList
def SqT (K:PySem.W.Frag) (H:Hp) (a:Addr) (xs:List V):Prop:=
 Rd H a (.tup xs)∨
  ∃ (o:Obj) (its:Array Value) (n:Nat),K.lookup a=some o∧o.cls=.type "tuple"∧o.data=.seq its n∧its.size≤sizeLine∧Vals xs its.toList
def absV:Value→Option V
 | .none=>some .non
 | .bool b=>some (.bl b)
 | .int i _=>some (.int i)
 | .str x _=>some (.str x)
 | .bytes b _=>some (.byt b)
 | .float b _=>some (.flt b)
 | .ref a=>some (.ref a)
 | .type n=>some (.ty n)
 | _=>none
theorem RelV.abs {x:V} {u:Value} (r:RelV x u):absV u=some x:=by
 cases x with
 | non=>cases r; rfl
 | bl _=>cases r; rfl
 | int _=>obtain⟨t,rfl⟩:=r; rfl
 | str _=>obtain⟨t,rfl⟩:=r; rfl
 | byt _=>obtain⟨t,rfl⟩:=r; rfl
 | flt _=>obtain⟨t,rfl⟩:=r; rfl
 | ref _=>cases r; rfl
 | ty _=>cases r; rfl
theorem RelV.inj {x y:V} {u:Value} (r:RelV x u) (q:RelV y u):x=y:=Option.some.inj (r.abs.symm.trans q.abs)
theorem Vals.inj:∀ {xs ys:List V} {us:List Value},Vals xs us→Vals ys us→xs=ys
 | _,_,_,.nil,.nil=>rfl
 | _,_,_,.cons r t,.cons r' t'=>by rw [r.inj r',Vals.inj t t']
section
variable {X:Cx} {pins:List (Addr×Obj)} {σ:St} {H:Hp} {s:Shared} {a:Addr} {xs ys:List V}
theorem SqL.of {K:PySem.W.Frag} (h:H a=some (.lst xs)):SqL K H a xs:=.inl (.inl h)
theorem SqT.of {K:PySem.W.Frag} (h:H a=some (.tup xs)):SqT K H a xs:=.inl (.inl h)
theorem Inv.list (I:Inv X pins σ H s) (h:SqL X.K H a xs):∃ its:List Value,Vals xs its∧PlainL s.heap a its.toArray∧xs.length≤sizeLine:=by
 rcases h with h | ⟨o,its,n,hk,hc,hd,hs,hz,r⟩
 ·obtain⟨z,its,n,r,e⟩:=h.ok I.hok
  exact⟨its,r,⟨_,n,e,rfl,rfl,rfl⟩,z⟩
 ·refine⟨its.toList,r,⟨o,n,I.kIn a o hk,hc,hd,by simpa using hs⟩,?_⟩
  have e:=r.length
  simp only [Array.length_toList] at e
  omega
theorem Inv.tuple (I:Inv X pins σ H s) (h:SqT X.K H a xs):∃ its:List Value,Vals xs its∧IsTup s.heap a its.toArray∧xs.length≤sizeLine:=by
 rcases h with h | ⟨o,its,n,hk,hc,hs,hz,r⟩
 ·obtain⟨z,its,r,p⟩:=h.ok I.hok
  exact⟨its,r,p,z⟩
 ·refine⟨its.toList,r,⟨o,I.kIn a o hk,hc,n,by simpa using hs⟩,?_⟩
  have e:=r.length
  simp only [Array.length_toList] at e
  omega
theorem Inv.list_inj (I:Inv X pins σ H s) (h:SqL X.K H a xs) (h':SqL X.K H a ys):xs=ys:=by
 obtain⟨its,r,⟨o,n,e,_,_,d⟩,_⟩:=I.list h
 obtain⟨its',r',⟨o',n',e',_,_,d'⟩,_⟩:=I.list h'
 rw [e] at e'; cases e'
 rw [d] at d'
 injection d' with d1 _
 have : its=its':=by simpa using congrArg Array.toList d1
 subst this
 exact r.inj r'
theorem Inv.tuple_inj (I:Inv X pins σ H s) (h:SqT X.K H a xs) (h':SqT X.K H a ys):xs=ys:=by
 obtain⟨its,r,⟨o,e,_,n,d⟩,_⟩:=I.tuple h
 obtain⟨its',r',⟨o',e',_,n',d'⟩,_⟩:=I.tuple h'
 rw [e] at e'; cases e'
 rw [d] at d'
 injection d' with d1 _
 have : its=its':=by simpa using congrArg Array.toList d1
 subst this
 exact r.inj r'
end
abbrev Cx.wish (X:Cx) (E:Value→Shared→Prop):Cx:={X with xe:=E}
abbrev Cx.nox (X:Cx):Cx:=X.wish fun _ _=>False
theorem Cx.Ok.wish {X:Cx} (ok:X.Ok) (E:Value→Shared→Prop):(X.wish E).Ok:=
 ⟨ok.mod,ok.kind,ok.glob,ok.blt,ok.above,ok.inj,ok.has,ok.cab,ok.hd,ok.frames,ok.stk,ok.exf,ok.bs,ok.bsz,ok.noex,ok.exfs,ok.funs,ok.frf⟩
theorem Cx.Ok.unwish {X:Cx} {E:Value→Shared→Prop} (ok:(X.wish E).Ok):X.Ok:=
 ⟨ok.mod,ok.kind,ok.glob,ok.blt,ok.above,ok.inj,ok.has,ok.cab,ok.hd,ok.frames,ok.stk,ok.exf,ok.bs,ok.bsz,ok.noex,ok.exfs,ok.funs,ok.frf⟩
section
variable {X:Cx} {pins:List (Addr×Obj)} {σ:St} {H:Hp} {s:Shared} {E:Value→Shared→Prop}
theorem Inv.wish (I:Inv X pins σ H s) (E:Value→Shared→Prop):Inv (X.wish E) pins σ H s:=⟨I.ok.wish E,I.os,I.bare,I.base,I.loc,I.cell,I.free,I.freeC,I.pin,I.hok,I.len⟩
theorem Inv.unwish (I:Inv (X.wish E) pins σ H s):Inv X pins σ H s:=⟨I.ok.unwish,I.os,I.bare,I.base,I.loc,I.cell,I.free,I.freeC,I.pin,I.hok,I.len⟩
theorem SP.unwish {D:Ends} {f:Flow} {s':Shared} (h:SP (X.wish E) pins D f s'):SP X pins D f s':=by
 cases f with
 | next=>obtain⟨σ',H',I,q⟩:=h; exact⟨σ',H',I.unwish,q⟩
 | brk=>obtain⟨σ',H',I,q⟩:=h; exact⟨σ',H',I.unwish,q⟩
 | cont=>obtain⟨σ',H',I,q⟩:=h; exact⟨σ',H',I.unwish,q⟩
 | ret u=>obtain⟨v,σ',H',I,r,q⟩:=h; exact⟨v,σ',H',I.unwish,r,q⟩
theorem PE.nox {e:Expr} {t:TE} (h:PE X.nox e t):PE X e t:=fun pins s σ H Q I hw=>
 wpAny_mono (h pins s σ H Q (I.wish _) hw) (fun _ _ ⟨v,H',I',r,q⟩=>⟨v,H',I'.unwish,r,q⟩) fun _ _ z=>False.elim z
theorem PT.nox {e:Expr} {t:TT} (h:PT X.nox e t):PT X e t:=fun pins s σ H Q I hw=>
 wpAny_mono (h pins s σ H Q (I.wish _) hw) (fun _ _ ⟨H',I',q⟩=>⟨H',I'.unwish,q⟩) fun _ _ z=>False.elim z
theorem PSs.nox {st:List Stmt} {t:TS} (h:PSs X.nox st t):PSs X st t:=fun pins s σ H D I hw=>
 wpAny_mono (h pins s σ H D (I.wish _) hw) (fun _ _ q=>q.unwish) fun _ _ z=>False.elim z
end
section
variable {X:Cx} {st:Stmt} {rest:List Stmt} {t u:TS} {e:Expr} {te:TE} {pos:Pos}
def tNext:TS:=fun D σ H=>D.nx σ H
def tSeq (t u:TS):TS:=fun D σ H=>t {D with nx:=u D} σ H
theorem pss_nil:PSs X [] tNext:=fun _ _ σ H _ I h=>wpAny_execs_nil ⟨σ,H,I,h⟩
theorem pss_cons (h1:PS X st t) (h2:PSs X rest u):PSs X (st::rest) (tSeq t u):=by
 intro pins s σ H D I h
 refine wpAny_execs_cons (thn (h1 pins s σ H {D with nx:=u D} I h) fun f s1 q=>?_)
 cases f with
 | next=>
  obtain⟨σ',H',I',q⟩:=q
  exact h2 pins s1 σ' H' D I' q
 | ret v=>exact q
 | brk=>exact q
 | cont=>exact q
theorem pss_one (h1:PS X st t):PSs X [st] t:=by
 intro pins s σ H D I h
 refine wpAny_execs_cons (thn (h1 pins s σ H D I h) fun f s1 q=>?_)
 cases f with
 | next=>exact wpAny_execs_nil q
 | ret v=>exact q
 | brk=>exact q
 | cont=>exact q
theorem Inv.quiet {pins:List (Addr×Obj)} {σ:St} {H:Hp} {s:Shared} (I:Inv X pins σ H s):interactive X.env=false:=by simp [interactive,I.ok.kind]
def tDrop (te:TE):TS:=fun D σ H=>te σ H fun _ H1=>D.nx σ H1
theorem ps_expr (he:PE X e te) (hs:swapsWith e none pos.line X.env=pure false:=by rfl):PS X (.Expr e pos) (tDrop te):=by
 intro pins s σ H D I h
 exact wpAny_Expr_any (thn (he pins s σ H _ I h) fun v s1 ⟨x,H1,I1,r1,q1⟩=>⟨σ,H1,I1,q1⟩) I.quiet hs
def tRet (te:TE):TS:=fun D σ H=>te σ H D.rt
theorem ps_ret (he:PE X e te):PS X (.Return (some e) pos) (tRet te):=by
 intro pins s σ H D I h
 exact wpAny_Return_some (thn (he pins s σ H _ I h) fun v s1 ⟨x,H1,I1,r1,q1⟩=>⟨x,σ,H1,I1,r1,q1⟩)
def tIfS (c:TT) (t u:TS):TS:=fun D σ H=>c σ H fun b H1=>if b=true then t D σ H1 else u D σ H1
theorem ps_if {c:Expr} {a b:List Stmt} {tc:TT} (hc:PT X c tc) (ha:PSs X a t) (hb:PSs X b u):PS X (.If c a b pos) (tIfS tc t u):=by
 intro pins s σ H D I h
 refine wpAny_If (thn (hc pins s σ H _ I h) fun d s1 ⟨H1,I1,q1⟩=>?_)
 cases d with
 | true=>exact ha pins s1 σ H1 D I1 q1
 | false=>exact hb pins s1 σ H1 D I1 q1
def tNever:TS:=fun _ _ _=>False
theorem ps_never:PS X st tNever:=fun _ _ _ _ _ _ h=>h.elim
end
abbrev TG:=V→St→Hp→(St→Hp→Prop)→Prop
abbrev TGs:=List V→St→Hp→(St→Hp→Prop)→Prop
def PG (X:Cx) (target:Expr) (t:TG):Prop:=
 ∀ (pins:List (Addr×Obj)) (s:Shared) (σ:St) (H:Hp) (v:V) (u:Value) (Q:St→Hp→Prop),Inv X pins σ H s→RelV v u→t v σ H Q→
  wpAny (model X.prog X.w) X.A (assign target X.env u) (fun _ s'=>∃ σ' H',Inv X pins σ' H' s'∧Q σ' H') X.xe s
def PGs (X:Cx) (ts:List Expr) (t:TGs):Prop:=
 ∀ (pins:List (Addr×Obj)) (s:Shared) (σ:St) (H:Hp) (vs:List V) (us:List Value) (Q:St→Hp→Prop),Inv X pins σ H s→Vals vs us→t vs σ H Q→
  wpAny (model X.prog X.w) X.A (assignInOrder ((assignEach ts X.env).map (·.2)) us) (fun _ s'=>∃ σ' H',Inv X pins σ' H' s'∧Q σ' H') X.xe s
abbrev TSet:=V→V→V→Hp→(Hp→Prop)→Prop
def PSet (X:Cx) (t:TSet):Prop:=
 ∀ (pins:List (Addr×Obj)) (s:Shared) (σ:St) (H:Hp) (o i v:V) (ov iv u:Value) (Q:Hp→Prop),Inv X pins σ H s→RelV o ov→RelV i iv→RelV v u→t o i v H Q→
  wpAny (model X.prog X.w) X.A (setItem ov iv u) (fun _ s'=>∃ H',Inv X pins σ H' s'∧Q H') X.xe s
abbrev TIp:=V→V→Hp→VK→Prop
def PIp (X:Cx) (op:Operator) (t:TIp):Prop:=
 ∀ (pins:List (Addr×Obj)) (s:Shared) (σ:St) (H:Hp) (x y:V) (v u:Value) (Q:VK),Inv X pins σ H s→RelV x v→RelV y u→t x y H Q→
  wpAny (model X.prog X.w) X.A (inplaceOp op v u) (EP X pins σ Q) X.xe s
section
variable {X:Cx} {pos:Pos}
def gName (i:Nat):TG:=fun v σ H Q=>Q (σ.set i (some v)) H
theorem pg_name {i:Nat} {x:Str} (hN:X.N.Nodup) (hi:X.N[i]? = some x) (hx:Loc X.env.scope x) (hf:X.fn x=true∨X.env.scope.names.lookup x=some .local:=by first | exact .inl rfl | exact .inr rfl | assumption):PG X (.Name x pos) (gName i):=by
 intro pins s σ H v u Q I r h
 exact wpAny_assign_Name (store_ok I hN hi hx r (fun s' I'=>⟨_,H,I',h⟩) hf)
def gNil:TGs:=fun vs σ H Q=>vs=[]∧Q σ H
def gCons (t:TG) (u:TGs):TGs:=fun vs σ H Q=>∃ v r,vs=v::r∧t v σ H fun σ' H'=>u r σ' H' Q
theorem pgs_nil:PGs X [] gNil:=by
 intro pins s σ H vs us Q I r h
 obtain⟨e,h⟩:=h
 subst e
 cases r
 exact assignInOrder_nil ⟨σ,H,I,h⟩
theorem pgs_cons {e:Expr} {es:List Expr} {t:TG} {u:TGs} (h1:PG X e t) (h2:PGs X es u)
  (hs:(assignEach (e::es) X.env).map (·.2)=assign e X.env::(assignEach es X.env).map (·.2):=by rfl):PGs X (e::es) (gCons t u):=by
 intro pins s σ H vs us Q I r h
 obtain⟨v,vr,e1,h⟩:=h
 subst e1
 cases r with
 | cons r rr=>
  rw [hs]
  refine assignInOrder_cons (thn (h1 pins s σ H _ _ _ I r h) fun _ s1 ⟨σ1,H1,I1,q1⟩=>?_)
  exact h2 pins s1 σ1 H1 _ _ Q I1 rr q1
def gTup (K:PySem.W.Frag) (n:Nat) (t:TGs):TG:=fun v σ H Q=>∃ a xs,v=.ref a∧SqT K H a xs∧xs.length=n∧t xs σ H Q
theorem pg_tup {es:List Expr} {k:Nat} {t:TGs} {n:Nat} (hc:X.calm=true) (h:PGs X es t)
  (hn:(assignEach es X.env).length=n:=by rfl) (hst:(assignEach es X.env).findIdx? (·.1)=none:=by rfl):PG X (.Tuple es k pos) (gTup X.K n t):=by
 intro pins s σ H v u Q I r hw
 obtain⟨a,xs,e1,hq,hl,hw⟩:=hw
 subst e1
 cases r
 obtain⟨its,rv,ht,hz⟩:=I.tuple hq
 refine assign_Tuple_tuple (I.ok.hd hc) ht (by simp [hn,← hl,rv.length]) hst fun h' hx=>?_
 have I1:Inv X pins σ H {s with heap:=h'}:=I.kept (t':=s.toks) fun b o e=>hx b o (Nat.ne_of_lt (Heap.lt_size e)) e
 exact h pins _ σ H xs _ Q I1 (by simpa using rv) hw
def gSub (to ti:TE) (t:TSet):TG:=fun v σ H Q=>to σ H fun o H1=>ti σ H1 fun i H2=>t o i v H2 fun H3=>Q σ H3
theorem pg_sub {o i:Expr} {to ti:TE} {t:TSet} (ho:PE X o to) (hi:PE X i ti) (hs:PSet X t)
  (ha:∀ v,assign (.Subscript o i pos) X.env v=(do
   let ov ← holding [v] (eval o X.env)
   let iv ← holding [v,ov] (eval i X.env)
   standAt pos
   holding [v,ov,iv] (setItem ov iv v)
   release [v,ov,iv] []):=by intro _; rfl):PG X (.Subscript o i pos) (gSub to ti t):=by
 intro pins s σ H v u Q I r h
 rw [ha]
 refine wpAny_bind (wpAny_holding (thn (ho pins s σ H _ I h) fun ov s1 ⟨x,H1,I1,r1,q1⟩=>?_))
 refine wpAny_bind (wpAny_holding (thn (hi pins s1 σ H1 _ I1 q1) fun iv s2 ⟨y,H2,I2,r2,q2⟩=>?_))
 refine wpAny_bind (wpAny_standAt (wpAny_bind (wpAny_holding (thn (hs pins s2 σ H2 x y v ov iv u _ I2 r1 r2 r q2) fun _ s3 ⟨H3,I3,q3⟩=>?_))))
 exact wpAny_release ⟨σ,H3,I3,q3⟩
def tAsg (te:TE) (g:TG):TS:=fun D σ H=>te σ H fun x H1=>g x σ H1 D.nx
theorem ps_asg {tg e:Expr} {te:TE} {g:TG} (he:PE X e te) (hg:PG X tg g) (hs:swapsWithSole [tg] e pos.line X.env=pure false:=by rfl) (hw:swappedStores [tg] e X.env=pure none:=by rfl)
  (h1:(assignEach [tg] X.env).map (·.2)=[assign tg X.env]:=by rfl):PS X (.Assign [tg] e pos) (tAsg te g):=by
 intro pins s σ H D I h
 refine wpAny_Assign_stores (thn (he pins s σ H _ I h) fun v s1 ⟨x,H1,I1,r1,q1⟩=>?_) hs hw
 rw [h1]
 exact thn (hg pins s1 σ H1 x v _ I1 r1 q1) fun _ s2 q=>q
theorem ps_set {i:Nat} {x:Str} {e:Expr} {te:TE} {pos':Pos} (hN:X.N.Nodup) (hi:X.N[i]? = some x) (hx:Loc X.env.scope x) (he:PE X e te) (hs:swapsWith e (some (.Name x pos')) pos.line X.env=pure false:=by rfl) (hf:X.fn x=true∨X.env.scope.names.lookup x=some .local:=by first | exact .inl rfl | exact .inr rfl | assumption) :
  PS X (.Assign [.Name x pos'] e pos) (tAsg te (gName i)):=by
 intro pins s σ H D I h
 refine wpAny_Assign_Name (thn (he pins s σ H _ I h) fun v s1 ⟨y,H1,I1,r1,q1⟩=>?_) hs
 exact store_ok I1 hN hi hx r1 (fun s2 I2=>⟨_,H1,I2,q1⟩) hf
def tAug (i:Nat) (te:TE) (ti:TIp):TS:=fun D σ H=>∃ x,σ[i]? = some (some x)∧te σ H fun y H1=>ti x y H1 fun z H2=>D.nx (σ.set i (some z)) H2
theorem ps_aug {i:Nat} {x:Str} {e:Expr} {te:TE} {op:Operator} {ti:TIp} {pos':Pos} (hN:X.N.Nodup) (hi:X.N[i]? = some x) (hx:Loc X.env.scope x) (he:PE X e te) (ho:PIp X op ti) (hf:X.fn x=true∨X.env.scope.names.lookup x=some .local:=by first | exact .inl rfl | exact .inr rfl | assumption) :
  PS X (.AugAssign (.Name x pos') op e pos) (tAug i te ti):=by
 intro pins s σ H D I h
 obtain⟨v,e1,h⟩:=h
 obtain⟨m,hn,hl⟩:=I.loc
 have vis:Vis X.env.scope x:=by rcases hx with k | k; exact .inl k; exact .inr (.inl k)
 obtain⟨u,r,l⟩:=hl i x v hi e1 vis
 refine wpAny_AugAssign_Name ?_
 have go:wpAny (model X.prog X.w) X.A (eval e X.env) (fun w s₂=>wpAny (model X.prog X.w) X.A (inplaceOp op u w) (fun r s₃=>wpAny (model X.prog X.w) X.A (storeName X.env x r) (fun _=>SP X pins D .next) X.xe s₃) X.xe s₂) X.xe s:=by
  refine thn (he pins s σ H _ I h) fun w s1 ⟨y,H1,I1,r1,q1⟩=>?_
  refine thn (ho pins s1 σ H1 v y u w _ I1 r r1 q1) fun z s2 ⟨zv,H2,I2,r2,q2⟩=>?_
  exact store_ok I2 hN hi hx r2 (fun s3 I3=>⟨_,H2,I3,q2⟩) hf
 rcases l with ⟨hk,hm⟩ | ⟨hk,c,hc,hcell⟩
 ·exact wpAny_loadName_local I.ok.kind hk hn hm go
 ·rcases hk with hk | hk
  ·exact wpAny_loadName_cell I.ok.kind hk hc hcell go
  ·rcases hx with k | k
   ·have : X.env.scope.names.lookup x=some .free:=hk
    rw [k] at this; cases this
   ·have : X.env.scope.names.lookup x=some .free:=hk
    rw [k] at this; cases this
end
section
variable {X:Cx} {pos:Pos}
end
structure It where
 go:Nat→Hp→Prop
 yld:Nat→Hp→V→Hp→Prop
 stop:Nat→Hp→Prop
def FpOk (X:Cx) (pins:List (Addr×Obj)) (H:Hp) (b:Addr):Prop:=
 H b=none∧b≠X.env.locals∧b∉X.fs∧(b∈X.ex∨X.s₀.heap.objs.size≤b)∧(∀ x c,X.env.cells.lookup x=some c→c≠b)∧∀ p∈X.pn++pins,p.1≠b
theorem Inv.fpOk {X:Cx} {pins:List (Addr×Obj)} {σ:St} {H H':Hp} {s:Shared} {b:Addr} (I:Inv X pins σ H s) (hb:s.heap.objs.size≤b) (hn:H' b=none):FpOk X pins H' b:=by
 refine⟨hn,Nat.ne_of_gt (Nat.lt_of_lt_of_le I.lt hb),I.nofs hb,.inr (Nat.le_trans I.sz hb),fun x c e z=>?_,fun p hp z=>?_⟩
 ·obtain⟨v,q⟩:=I.cell x c e
  exact absurd (Nat.lt_of_lt_of_le q.lt (by rw [z]; exact hb)) (Nat.lt_irrefl _)
 ·exact absurd (Nat.lt_of_lt_of_le (Heap.lt_size (I.pin p hp).1) (by rw [z]; exact hb)) (Nat.lt_irrefl _)
structure Turn (P:Program) (w:World) (K:PySem.W.Frag) (tg:Expr) (J:It) (fp:List Addr) (it:Addr) (tn:Nat→Heap→Prop):Prop where
 mem:it∈fp
 obj:∀ i h,tn i h→∀ b∈fp,∃ o,h.get? b=some o∧∀ v,o.data≠.cell v
 keep:∀ i h h',tn i h→(∀ b∈fp,∀ o,h.get? b=some o→h'.get? b=some o)→tn i h'
 item:∀ (X:Cx),X.prog=P→X.w=w→X.K=K→X.calm=true→∀ (i:Nat) (pins:List (Addr×Obj)) (s:Shared) (σ:St) (H:Hp) (E:Value→Shared→Prop),Inv X pins σ H s→(∀ b∈fp,FpOk X pins H b)→tn i s.heap→J.go i H→
  wpAny (model P w) X.A (pyNext (.ref it)) (fun r s1=>∃ u,r=some u∧
   wpAny (model P w) X.A (letOwnedTupleGo tg (.ref it) u) (fun _ s2=>∃ x H',Inv X pins σ H' s2∧RelV x u∧J.yld i H x H'∧tn (i+1) s2.heap∧∀ b∈fp,H' b=none) E s1) E s
 done:∀ (X:Cx),X.prog=P→X.w=w→X.K=K→X.calm=true→∀ (i:Nat) (pins:List (Addr×Obj)) (s:Shared) (σ:St) (H:Hp) (E:Value→Shared→Prop),Inv X pins σ H s→(∀ b∈fp,FpOk X pins H b)→tn i s.heap→J.stop i H→
  wpAny (model P w) X.A (pyNext (.ref it)) (fun r s1=>r=none∧Inv X pins σ H s1) E s
 self:∀ (A:Around) (i:Nat) (s:Shared) (Q:Value→Shared→Prop) (E:Value→Shared→Prop),tn i s.heap→Q (.ref it) s→wpAny (model P w) A (pyIter (.ref it)) Q E s
abbrev TI:=St→Hp→(It→Hp→Prop)→Prop
def PIE (X:Cx) (pins:List (Addr×Obj)) (σ:St) (tg:Expr) (R:It→Hp→Prop) (itv:Value) (s2:Shared):Prop:=
 ∃ (it:Addr) (fp:List Addr) (tn:Nat→Heap→Prop) (J:It) (H':Hp),itv=.ref it∧Inv X pins σ H' s2∧Turn X.prog X.w X.K tg J fp it tn∧tn 0 s2.heap∧(∀ b∈fp,FpOk X pins H' b)∧R J H'
def PI (X:Cx) (tg iter:Expr) (wi:TI):Prop:=
 ∀ (pins:List (Addr×Obj)) (s:Shared) (σ:St) (H:Hp) (R:It→Hp→Prop),Inv X pins σ H s→wi σ H R→
  wpAny (model X.prog X.w) X.A (eval iter X.env) (fun v s1=>wpAny (model X.prog X.w) X.A (pyIter v) (PIE X pins σ tg R) X.xe s1) X.xe s
theorem go_of {M:Model} {A:Around} {E:Value→Shared→Prop} {s:Shared} {tg:Expr} {it:Addr} {u:Value} {o:Obj} {n:String} {vs:Array Value} {Q:Unit→Shared→Prop} (ho:s.heap.get? it=some o) (hc:o.cls=.type n) (hd:o.data=.fields vs)
    (hn:["enumerate","zip","dict_itemiterator","dict_reverseitemiterator","odict_iterator","itertools.zip_longest","itertools.pairwise"].contains n=false) (hQ:Q () s):wpAny M A (letOwnedTupleGo tg (.ref it) u) Q E s:=by
  unfold letOwnedTupleGo
  cases tg <;> first
    | exact wpAny_pure hQ
    | (cases u <;> first
        | exact wpAny_pure hQ
        | (refine wpAny_bind (wpAny_load ho ?_)
           rw [hc,hd]
           show wpAny M A (if (["enumerate","zip","dict_itemiterator","dict_reverseitemiterator","odict_iterator","itertools.zip_longest","itertools.pairwise"].contains n&&vs[0]? == some (rawInt _))=true then _ else _) Q E s
           rw [if_neg (by intro h; rw [hn,Bool.false_and] at h; cases h)]
           exact wpAny_pure hQ))
def Itl (K:PySem.W.Frag) (a:Addr):It:=
 ⟨fun i H=>∃ xs x,SqL K H a xs∧xs[i]? = some x,fun i H x H'=>H'=H∧∀ xs,SqL K H a xs→xs[i]? = some x,fun i H=>∃ xs,SqL K H a xs∧xs.length≤i⟩
def Itt (K:PySem.W.Frag) (a:Addr):It:=
 ⟨fun i H=>∃ xs x,SqT K H a xs∧xs[i]? = some x,fun i H x H'=>H'=H∧∀ xs,SqT K H a xs→xs[i]? = some x,fun i H=>∃ xs,SqT K H a xs∧xs.length≤i⟩
def Itr (lo:Int) (n:Nat):It:=⟨fun i _=>i<n,fun i H x H'=>H'=H∧x=.int (lo+i),fun i _=>n≤i⟩
theorem turn_list {P:Program} {w:World} {K:PySem.W.Frag} {tg:Expr} (a it:Addr):Turn P w K tg (Itl K a) [it] it (fun i h=>h.IsListIter it a i) where
 mem:=by simp
 obj:=fun i h st b hb=>by
  have e:b=it:=by simpa using hb
  subst e
  obtain⟨o,e,c,d⟩:=st
  exact⟨o,e,fun v z=>by rw [d] at z; cases z⟩
 keep:=fun i h h' st k=>st.at fun o e=>k it (by simp) o e
 item:=by
  intro X hP hw hK hc i pins s σ H E I hf st hg
  subst hP hw hK
  obtain⟨xs,x,hq,hx⟩:=hg
  obtain⟨its,rv,p,hz⟩:=I.list hq
  obtain⟨u,hu,ru⟩:=rv.get hx
  obtain⟨f0,f1,f2,f3,f4,f5⟩:=hf it (by simp)
  refine wpAny_pyNext_list_item st p.isList (x:=u) (by simpa using hu) fun h' st' sb=>?_
  have I1:Inv X pins σ H {s with heap:=h'}:=I.turned (t':=s.toks) (fun b o hb e=>(sb.2 b hb).trans e) f0 f1 f3 f4 f5
  obtain⟨o,e,c,d⟩:=id st'
  exact⟨u,rfl,go_of (s:={s with heap:=h'}) e c d (by decide) ⟨x,H,I1,ru,⟨rfl,fun ys hy=>by rw [I.list_inj hy hq]; exact hx⟩,st',fun b hb=>(hf b hb).1⟩⟩
 done:=by
  intro X hP hw hK hc i pins s σ H E I hf st hg
  subst hP hw hK
  obtain⟨xs,hq,hx⟩:=hg
  obtain⟨its,rv,p,hz⟩:=I.list hq
  obtain⟨f0,f1,f2,f3,f4,f5⟩:=hf it (by simp)
  have hl:=rv.length
  exact wpAny_pyNext_list_end (I.ok.hd hc) st p.isList (by simp; omega) fun h' eb=>⟨rfl,I.turned (t':=s.toks) (fun b o hb e=>eb b o hb e) f0 f1 f3 f4 f5⟩
 self:=fun _ _ _ _ _ st h=>wpAny_pyIter_listiter st h
theorem turn_tuple {P:Program} {w:World} {K:PySem.W.Frag} {tg:Expr} (a it:Addr):Turn P w K tg (Itt K a) [it] it (fun i h=>h.IsTupleIter it a i) where
 mem:=by simp
 obj:=fun i h st b hb=>by
  have e:b=it:=by simpa using hb
  subst e
  obtain⟨o,e,c,d⟩:=st
  exact⟨o,e,fun v z=>by rw [d] at z; cases z⟩
 keep:=fun i h h' st k=>st.at fun o e=>k it (by simp) o e
 item:=by
  intro X hP hw hK hc i pins s σ H E I hf st hg
  subst hP hw hK
  obtain⟨xs,x,hq,hx⟩:=hg
  obtain⟨its,rv,p,hz⟩:=I.tuple hq
  obtain⟨u,hu,ru⟩:=rv.get hx
  obtain⟨f0,f1,f2,f3,f4,f5⟩:=hf it (by simp)
  refine wpAny_pyNext_tuple_item st (show s.heap.IsTuple a its.toArray from p) (x:=u) (by simpa using hu) fun h' st' sb=>?_
  have I1:Inv X pins σ H {s with heap:=h'}:=I.turned (t':=s.toks) (fun b o hb e=>(sb.2 b hb).trans e) f0 f1 f3 f4 f5
  obtain⟨o,e,c,d⟩:=id st'
  exact⟨u,rfl,go_of (s:={s with heap:=h'}) e c d (by decide) ⟨x,H,I1,ru,⟨rfl,fun ys hy=>by rw [I.tuple_inj hy hq]; exact hx⟩,st',fun b hb=>(hf b hb).1⟩⟩
 done:=by
  intro X hP hw hK hc i pins s σ H E I hf st hg
  subst hP hw hK
  obtain⟨xs,hq,hx⟩:=hg
  obtain⟨its,rv,p,hz⟩:=I.tuple hq
  obtain⟨f0,f1,f2,f3,f4,f5⟩:=hf it (by simp)
  have hl:=rv.length
  exact wpAny_pyNext_tuple_end (I.ok.hd hc) st (show s.heap.IsTuple a its.toArray from p) (by simp; omega) fun h' eb=>⟨rfl,I.turned (t':=s.toks) (fun b o hb e=>eb b o hb e) f0 f1 f3 f4 f5⟩
 self:=fun _ _ _ _ _ st h=>wpAny_pyIter_tupleiter st h
theorem turn_range {P:Program} {w:World} {K:PySem.W.Frag} {tg:Expr} (it:Addr) (lo:Int) (n:Nat):Turn P w K tg (Itr lo n) [it] it (fun i h=>IsRangeIter h it (lo+(i:Nat)*1) ((n:Int) - (i:Nat)) 1) where
 mem:=by simp
 obj:=fun i h st b hb=>by
  have e:b=it:=by simpa using hb
  subst e
  exact⟨_,st,fun v z=>by
   have z':Data.fields _=Data.cell v:=z
   cases z'⟩
 keep:=fun i h h' st k=>k it (by simp) _ st
 item:=by
  intro X hP hw hK hc i pins s σ H E I hf st hg
  subst hP hw hK
  obtain⟨f0,f1,f2,f3,f4,f5⟩:=hf it (by simp)
  have W:=Walks.range (prog:=X.prog) (w:=X.w) (I.ok.hd hc) it lo 1 n
  refine W.item i s _ _ hg st fun v h' tk hv st' kk=>?_
  obtain⟨t,rfl⟩:=hv
  have I1:Inv X pins σ H {s with heap:=h',toks:=tk}:=I.turned (fun b o hb e=>kk b o (by simpa using hb) e) f0 f1 f3 f4 f5
  refine⟨_,rfl,go_of (s:={s with heap:=h',toks:=tk}) (n:="range_iterator") st' rfl rfl (by decide) ⟨.int (lo+i),H,I1,⟨t,?_⟩,⟨rfl,rfl⟩,st',fun b hb=>(hf b hb).1⟩⟩
  rw [Int.mul_one]
 done:=by
  intro X hP hw hK hc i pins s σ H E I hf st hg
  subst hP hw hK
  obtain⟨f0,f1,f2,f3,f4,f5⟩:=hf it (by simp)
  exact wpAny_pyNext_range_end (I.ok.hd hc) st (by have : n≤i:=hg; omega) fun h' eb=>⟨rfl,I.turned (t':=s.toks) (fun b o hb e=>eb b o hb e) f0 f1 f3 f4 f5⟩
 self:=fun _ _ _ _ _ st h=>wpAny_pyIter_rangeiter st h
section
variable {X:Cx} {tg:Expr}
def iList (K:PySem.W.Frag) (tl:TE):TI:=fun σ H R=>tl σ H fun x H1=>∃ a,x=.ref a∧(∃ xs,SqL K H1 a xs)∧R (Itl K a) H1
def iTup (K:PySem.W.Frag) (tl:TE):TI:=fun σ H R=>tl σ H fun x H1=>∃ a,x=.ref a∧(∃ xs,SqT K H1 a xs)∧R (Itt K a) H1
theorem pi_list {l:Expr} {tl:TE} (hl:PE X l tl):PI X tg l (iList X.K tl):=by
 intro pins s σ H R I h
 refine thn (hl pins s σ H _ I h) fun v s1 ⟨x,H1,I1,r1,q1⟩=>?_
 obtain⟨a,e,⟨xs,hq⟩,q⟩:=q1
 subst e
 cases r1
 obtain⟨its,rv,p,hz⟩:=I1.list hq
 refine wpAny_pyIter_list p.isList ?_
 refine⟨s1.heap.objs.size,[s1.heap.objs.size],_,_,H1,rfl,I1.kept (t':=s1.toks) fun b o e=>Heap.get?_push_of_some _ e,turn_list a _,⟨_,Heap.get?_push_size _ rfl,rfl,rfl⟩,fun b hb=>?_,q⟩
 have e:b=s1.heap.objs.size:=by simpa using hb
 subst e
 exact I1.fpOk (Nat.le_refl _) (I1.hok.fresh (Nat.le_refl _))
theorem pi_tup {l:Expr} {tl:TE} (hl:PE X l tl):PI X tg l (iTup X.K tl):=by
 intro pins s σ H R I h
 refine thn (hl pins s σ H _ I h) fun v s1 ⟨x,H1,I1,r1,q1⟩=>?_
 obtain⟨a,e,⟨xs,hq⟩,q⟩:=q1
 subst e
 cases r1
 obtain⟨its,rv,p,hz⟩:=I1.tuple hq
 refine wpAny_pyIter_tuple (show s1.heap.IsTuple a its.toArray from p) ?_
 refine⟨s1.heap.objs.size,[s1.heap.objs.size],_,_,H1,rfl,I1.kept (t':=s1.toks) fun b o e=>Heap.get?_push_of_some _ e,turn_tuple a _,⟨_,Heap.get?_push_size _ rfl,rfl,rfl⟩,fun b hb=>?_,q⟩
 have e:b=s1.heap.objs.size:=by simpa using hb
 subst e
 exact I1.fpOk (Nat.le_refl _) (I1.hok.fresh (Nat.le_refl _))
theorem range_it {pins:List (Addr×Obj)} {σ:St} {H:Hp} {s:Shared} {R:It→Hp→Prop} {E:Value→Shared→Prop} {lo hi:Int} {t u v:Tok} {tk:Nat} (I:Inv X pins σ H s) (h1:-(2 ^ 62)≤lo) (h2:lo<2 ^ 62) (h3:-(2 ^ 62)≤hi) (h4:hi<2 ^ 62)
  (q:R (Itr lo (hi-lo).toNat) H):wpAny (model X.prog X.w) X.A (pyIter (.ref s.heap.objs.size)) (PIE X pins σ tg R) E {s with heap:=s.heap.push {cls:=.type "range",data:=.fields #[.int lo t,.int hi u,.int 1 v]},toks:=tk}:=by
 refine wpAny_pyIter_range (IsRange.new ..) (small_one h1 h2 h3 h4) ?_
 have I1:Inv X pins σ H {s with heap:=s.heap.push {cls:=.type "range",data:=.fields #[.int lo t,.int hi u,.int 1 v]},toks:=tk}:=I.kept fun b o e=>Heap.get?_push_of_some _ e
 refine⟨(s.heap.push {cls:=.type "range",data:=.fields #[.int lo t,.int hi u,.int 1 v]}).objs.size,[(s.heap.push {cls:=.type "range",data:=.fields #[.int lo t,.int hi u,.int 1 v]}).objs.size],_,_,H,rfl,
  I1.kept (t':=tk) fun b o e=>Heap.get?_push_of_some _ e,turn_range _ lo (hi-lo).toNat,?_,fun b hb=>?_,q⟩
 ·have e1:lo+((0:Nat):Int)*1=lo:=by simp
  have e2:(((hi-lo).toNat:Nat):Int) - ((0:Nat):Int)=Builtin.Range.rangeSize lo hi 1:=by rw [rangeSize_one]; split <;> omega
  show IsRangeIter _ _ (lo+((0:Nat):Int)*1) ((((hi-lo).toNat:Nat):Int) - ((0:Nat):Int)) 1
  rw [e1,e2]
  exact Heap.get?_push_size _ rfl
 ·have e:b=(s.heap.push {cls:=.type "range",data:=.fields #[.int lo t,.int hi u,.int 1 v]}).objs.size:=by simpa using hb
  subst e
  exact I1.fpOk (Nat.le_refl _) (I1.hok.fresh (Nat.le_refl _))
def iRng1 (ta:TA):TI:=fun σ H R=>ta σ H fun vs H1=>∃ j:Int,vs=[.int j]∧-(2 ^ 62)≤j∧j<2 ^ 62∧R (Itr 0 j.toNat) H1
theorem pi_range1 {a:Expr} {ta:TA} {p pos:Pos} (hg:Gl X "range") (hm:X.mg "range"=none) (ha:PA X [a] ta) (hs:starEach [a] X.env=[(false,eval a X.env)]:=by rfl):PI X tg (.Call (.Name "range" p) [a] [] pos) (iRng1 ta):=by
 intro pins s σ H R I h
 refine Call_ (ld_blt I hg hm boot_range (PyProof.Rows.callWith_type1 (thn (ha pos pins s σ H _ I h) fun us s1 ⟨vs,H1,I1,r1,q1⟩=>?_) hs rfl))
 obtain⟨j,e,q1,q2,q⟩:=q1
 subst e
 cases r1 with
 | cons r rr=>
  cases rr
  obtain⟨t,rfl⟩:=r
  exact call_range_1 (range_it I1 (by omega) (by omega) q1 q2 (by simpa using q))
def tFor (wi:TI) (g:TG) (tb:TS):TS:=fun D σ H=>wi σ H fun J H1=>∃ W:Nat→Nat→St→Hp→Prop,(∃ m,W 0 m σ H1)∧∀ i m σ H,W i m σ H→
 (J.stop i H∧D.nx σ H)∨(J.go i H∧∃ N:St→Hp→Prop,(∀ σ' H',N σ' H'→∃ m',m'<m∧W (i+1) m' σ' H')∧∀ x H',J.yld i H x H'→g x σ H' fun σ2 H2=>tb {D with nx:=N,ct:=N,bk:=D.nx} σ2 H2)
def pinsAt (fp:List Addr) (h:Heap):List (Addr×Obj):=fp.filterMap fun b=>(h.get? b).map fun o=>(b,o)
theorem mem_pinsAt {fp:List Addr} {h:Heap} {b:Addr} {o:Obj} (hb:b∈fp) (e:h.get? b=some o):(b,o)∈pinsAt fp h:=List.mem_filterMap.mpr ⟨b,hb,by rw [e]; rfl⟩
theorem of_pinsAt {fp:List Addr} {h:Heap} {p:Addr×Obj} (hp:p∈pinsAt fp h):p.1∈fp∧h.get? p.1=some p.2:=by
 obtain⟨b,hb,e⟩:=List.mem_filterMap.mp hp
 cases q:h.get? b with
 | none=>rw [q] at e; cases e
 | some o=>
  rw [q] at e
  have e':(b,o)=p:=Option.some.inj e
  subst e'
  exact⟨hb,q⟩
theorem Inv.pinned {pins:List (Addr×Obj)} {σ:St} {H:Hp} {s:Shared} {fp:List Addr} (I:Inv X pins σ H s) (hf:∀ b∈fp,FpOk X pins H b) (ho:∀ b∈fp,∃ o,s.heap.get? b=some o∧∀ v,o.data≠.cell v):Inv X (pins++pinsAt fp s.heap) σ H s:=
 I.pins_of fun p hp=>(List.mem_append.mp hp).elim (fun z=>I.pin p (List.mem_append_right _ z)) fun z=>by
  obtain⟨hb,e⟩:=of_pinsAt z
  obtain⟨f0,f1,f2,_⟩:=hf p.1 hb
  obtain⟨o,e',d⟩:=ho p.1 hb
  rw [e] at e'; cases e'
  exact⟨e,f0,f1,f2,d⟩
theorem Inv.unpinned {pins pl:List (Addr×Obj)} {σ:St} {H:Hp} {s:Shared} (I:Inv X (pins++pl) σ H s):Inv X pins σ H s:=I.pins_of fun p hp=>I.pin p (List.mem_append_right _ (List.mem_append_left _ hp))
theorem ps_for {iter:Expr} {body:List Stmt} {wi:TI} {g:TG} {tb:TS} {pos:Pos} (hp:PassesOwn (model X.prog X.w) X.A X.env X.xe) (hc:X.calm=true) (hi:PI X tg iter wi) (hg:PG X tg g) (hb:PSs X body tb)
  (hs:∀ x,foldedSetIterable iter X.env x=pure x:=by intro _; rfl):PS X (.For tg iter body [] pos) (tFor wi g tb):=by
 intro pins s σ H D I h
 refine wpAny_For (thn (hi pins s σ H _ I h) fun v s1 h1=>thn h1 fun itv s2 h2=>?_) hs
 obtain⟨it,fp,tn,J,H2,e,I2,T,st2,f2,W,⟨m0,w0⟩,turn⟩:=h2
 subst e
 have stat:∀ {H':Hp},(∀ b∈fp,H' b=none)→∀ b∈fp,FpOk X pins H' b:=fun hn b hb=>⟨hn b hb,(f2 b hb).2⟩
 refine codeAny_forLoop_any (fun n s'=>∃ i σ' H',Inv X pins σ' H' s'∧tn i s'.heap∧(∀ b∈fp,H' b=none)∧W i n σ' H') ?_ m0 ⟨0,σ,H2,I2,st2,fun b hb=>(f2 b hb).1,w0⟩
 rintro n s3 ⟨i,σ3,H3,I3,st3,fr3,w3⟩
 rcases turn i n σ3 H3 w3 with ⟨stop,qn⟩ | ⟨go,N,hN,step⟩
 ·refine wpAny_passesOwn hp (thn (T.done X rfl rfl rfl hc i pins s3 σ3 H3 X.xe I3 (stat fr3) st3 stop) fun r s4 ⟨hr,I4⟩=>?_)
  subst hr
  exact wpAny_execs_nil ⟨σ3,H3,I4,qn⟩
 ·refine wpAny_passesOwn hp (thn (T.item X rfl rfl rfl hc i pins s3 σ3 H3 X.xe I3 (stat fr3) st3 go) fun r s4 ⟨u,hr,h4⟩=>?_)
  subst hr
  refine wpAny_passesOwn hp (thn h4 fun _ s5 ⟨x,H5,I5,r5,y5,st5,fr5⟩=>?_)
  have I5':=I5.pinned (stat fr5) (T.obj _ _ st5)
  refine wpAny_passesOwn hp (thn (hg _ s5 σ3 H5 x u _ I5' r5 (step x H5 y5)) fun _ s6 ⟨σ6,H6,I6,q6⟩=>?_)
  refine wpAny_passesOwn hp (thn (hb _ s6 σ6 H6 _ I6 q6) fun f s7 q7=>?_)
  have again:∀ {σ7:St} {H7:Hp},Inv X (pins++pinsAt fp s5.heap) σ7 H7 s7→N σ7 H7→∃ m,m<n∧∃ i σ' H',Inv X pins σ' H' s7∧tn i s7.heap∧(∀ b∈fp,H' b=none)∧W i m σ' H':=fun {σ7 H7} I7 n7=>by
   obtain⟨m',hm,w7⟩:=hN σ7 H7 n7
   refine⟨m',hm,i+1,σ7,H7,I7.unpinned,T.keep _ _ _ st5 fun b hb o e=>(I7.pin (b,o) (List.mem_append_right _ (List.mem_append_right _ (mem_pinsAt hb e)))).1,fun b hb=>?_,w7⟩
   obtain⟨o,e,d⟩:=T.obj _ _ st5 b hb
   exact(I7.pin (b,o) (List.mem_append_right _ (List.mem_append_right _ (mem_pinsAt hb e)))).2.1
  cases f with
  | next=>obtain⟨σ7,H7,I7,n7⟩:=q7; exact again I7 n7
  | cont=>obtain⟨σ7,H7,I7,n7⟩:=q7; exact again I7 n7
  | brk=>obtain⟨σ7,H7,I7,q7⟩:=q7; exact⟨σ7,H7,I7.unpinned,q7⟩
  | ret v=>obtain⟨x7,σ7,H7,I7,r7,q7⟩:=q7; exact⟨x7,σ7,H7,I7.unpinned,r7,q7⟩
end
theorem for_list {K:PySem.W.Frag} {a:Addr} {xs:List V} {g:TG} {tb:TS} {D:Ends} {σ:St} {H:Hp} (Pv:Nat→St→Hp→Prop) (h0:Pv 0 σ H) (hl:∀ i σ H,i≤xs.length→Pv i σ H→SqL K H a xs)
  (hs:∀ i x σ H,xs[i]? = some x→Pv i σ H→g x σ H fun σ2 H2=>tb {D with nx:=Pv (i+1),ct:=Pv (i+1),bk:=D.nx} σ2 H2) (hd:∀ σ H,Pv xs.length σ H→D.nx σ H) :
  ∃ W:Nat→Nat→St→Hp→Prop,(∃ m,W 0 m σ H)∧∀ i m σ H,W i m σ H→
   ((Itl K a).stop i H∧D.nx σ H)∨((Itl K a).go i H∧∃ N:St→Hp→Prop,(∀ σ' H',N σ' H'→∃ m',m'<m∧W (i+1) m' σ' H')∧∀ x H',(Itl K a).yld i H x H'→g x σ H' fun σ2 H2=>tb {D with nx:=N,ct:=N,bk:=D.nx} σ2 H2):=by
 refine⟨fun i m σ H=>m=xs.length-i∧i≤xs.length∧Pv i σ H,⟨xs.length,by simp,Nat.zero_le _,h0⟩,?_⟩
 rintro i m σ H ⟨rfl,hi,p⟩
 have q:=hl i σ H hi p
 by_cases hlt:i<xs.length
 ·refine .inr ⟨⟨xs,xs[i],q,by simp [hlt]⟩,Pv (i+1),fun σ' H' p'=>⟨xs.length - (i+1),by omega,rfl,hlt,p'⟩,fun x H' y=>?_⟩
  obtain⟨e,y⟩:=y
  subst e
  exact hs i x σ _ (y xs q) p
 ·have e:i=xs.length:=by omega
  subst e
  exact .inl ⟨⟨xs,q,Nat.le_refl _⟩,hd σ H p⟩
theorem for_range {lo:Int} {n:Nat} {g:TG} {tb:TS} {D:Ends} {σ:St} {H:Hp} (Pv:Nat→St→Hp→Prop) (h0:Pv 0 σ H)
  (hs:∀ i σ H,i<n→Pv i σ H→g (.int (lo+i)) σ H fun σ2 H2=>tb {D with nx:=Pv (i+1),ct:=Pv (i+1),bk:=D.nx} σ2 H2) (hd:∀ σ H,Pv n σ H→D.nx σ H) :
  ∃ W:Nat→Nat→St→Hp→Prop,(∃ m,W 0 m σ H)∧∀ i m σ H,W i m σ H→
   ((Itr lo n).stop i H∧D.nx σ H)∨((Itr lo n).go i H∧∃ N:St→Hp→Prop,(∀ σ' H',N σ' H'→∃ m',m'<m∧W (i+1) m' σ' H')∧∀ x H',(Itr lo n).yld i H x H'→g x σ H' fun σ2 H2=>tb {D with nx:=N,ct:=N,bk:=D.nx} σ2 H2):=by
 refine⟨fun i m σ H=>m=n-i∧i≤n∧Pv i σ H,⟨n,by simp,Nat.zero_le _,h0⟩,?_⟩
 rintro i m σ H ⟨rfl,hi,p⟩
 by_cases hlt:i<n
 ·refine .inr ⟨hlt,Pv (i+1),fun σ' H' p'=>⟨n - (i+1),by omega,rfl,hlt,p'⟩,fun x H' y=>?_⟩
  obtain⟨e,y⟩:=y
  subst e y
  exact hs i σ _ hlt p
 ·have e:i=n:=by omega
  subst e
  exact .inl ⟨Nat.le_refl _,hd σ H p⟩
abbrev R2:=V→V→Hp→VK→Prop
def OpR (X:Cx) (f:Value→Value→Sem Value) (r:R2):Prop:=
 ∀ (pins:List (Addr×Obj)) (s:Shared) (σ:St) (H:Hp) (x y:V) (v u:Value) (Q:VK),Inv X pins σ H s→RelV x v→RelV y u→r x y H Q→
  wpAny (model X.prog X.w) X.A (f v u) (EP X pins σ Q) X.xe s
def UnR (X:Cx) (f:Value→Sem Value) (r:V→Hp→VK→Prop):Prop:=
 ∀ (pins:List (Addr×Obj)) (s:Shared) (σ:St) (H:Hp) (x:V) (v:Value) (Q:VK),Inv X pins σ H s→RelV x v→r x H Q→
  wpAny (model X.prog X.w) X.A (f v) (EP X pins σ Q) X.xe s
def CallR (X:Cx) (f:Value) (r:List V→Hp→VK→Prop):Prop:=
 ∀ (pins:List (Addr×Obj)) (s:Shared) (σ:St) (H:Hp) (xs:List V) (us:List Value) (Q:VK),Inv X pins σ H s→Vals xs us→r xs H Q→
  wpAny (model X.prog X.w) X.A (call f us) (EP X pins σ Q) X.xe s
def tOp (r:R2) (ta tb:TE):TE:=fun σ H Q=>ta σ H fun x H1=>tb σ H1 fun y H2=>r x y H2 Q
def tUn (r:V→Hp→VK→Prop) (ta:TE):TE:=fun σ H Q=>ta σ H fun x H1=>r x H1 Q
def rI (C:Int→Int→Prop) (g:Int→Int→V):R2:=fun x y H Q=>∃ i j,x=.int i∧y=.int j∧C i j∧Q (g i j) H
def rI0 (g:Int→Int→V):R2:=fun x y H Q=>∃ i j,x=.int i∧y=.int j∧Q (g i j) H
def rU (g:Int→V):V→Hp→VK→Prop:=fun x H Q=>∃ i,x=.int i∧Q (g i) H
section
variable {X:Cx} {a b c:Expr} {ta tb tc:TE} {pos:Pos}
theorem binT (ha:PE X a ta) (hb:PE X b tb) {pins:List (Addr×Obj)} {s:Shared} {σ:St} {H:Hp} {R:V→V→Hp→Prop} (I:Inv X pins σ H s)
  (h:ta σ H fun x H1=>tb σ H1 fun y H2=>R x y H2) {Q:Value→Shared→Prop} {f:Value→Value→Sem Value}
  (hf:∀ v u s2 x y H2,Inv X pins σ H2 s2→RelV x v→RelV y u→R x y H2→wpAny (model X.prog X.w) X.A (f v u) Q X.xe s2) :
  wpAny (model X.prog X.w) X.A (eval a X.env) (fun v s₁=>wpAny (model X.prog X.w) X.A (eval b X.env) (fun u s₂=>wpAny (model X.prog X.w) X.A (f v u) Q X.xe s₂) X.xe s₁) X.xe s:=by
 refine thn (ha pins s σ H _ I h) fun v s1 ⟨x,H1,I1,r1,q1⟩=>?_
 refine thn (hb pins s1 σ H1 _ I1 q1) fun u s2 ⟨y,H2,I2,r2,q2⟩=>?_
 exact hf v u s2 x y H2 I2 r1 r2 q2
theorem pe_op {op:Operator} {r:R2} (ho:OpR X (binaryOp op) r) (ha:PE X a ta) (hb:PE X b tb):PE X (.BinOp a op b pos) (tOp r ta tb):=by
 intro pins s σ H Q I h
 exact wpAny_BinOp (binT ha hb I h fun v u s2 x y H2 I2 rx ry q=>ho pins s2 σ H2 x y v u Q I2 rx ry q)
theorem pe_un {op:UnaryOp} {r:V→Hp→VK→Prop} (ho:UnR X (unaryOp op) r) (ha:PE X a ta):PE X (.UnaryOp op a pos) (tUn r ta):=by
 intro pins s σ H Q I h
 exact UnaryOp_ (thn (ha pins s σ H _ I h) fun v s1 ⟨x,H1,I1,r1,q1⟩=>ho pins s1 σ H1 x v Q I1 r1 q1)
theorem opI {f:Value→Value→Sem Value} {C:Int→Int→Prop} {g:Int→Int→Int}
  (rule:∀ (i j:Int) (t u:Tok) (s:Shared) (Q:Value→Shared→Prop) (E:Value→Shared→Prop),C i j→Q (.int (g i j) s.toks) {s with toks:=s.toks+1}→wpAny (model X.prog X.w) X.A (f (.int i t) (.int j u)) Q E s) :
  OpR X f (rI C fun i j=>.int (g i j)):=by
 intro pins s σ H x y v u Q I rx ry h
 obtain⟨i,j,rfl,rfl,hc,q⟩:=h
 obtain⟨t,rfl⟩:=rx
 obtain⟨t',rfl⟩:=ry
 exact rule i j t t' s _ _ hc ⟨.int (g i j),H,I.tok _,⟨_,rfl⟩,q⟩
theorem opI0 {f:Value→Value→Sem Value} {g:Int→Int→Int}
  (rule:∀ (i j:Int) (t u:Tok) (s:Shared) (Q:Value→Shared→Prop) (E:Value→Shared→Prop),Q (.int (g i j) s.toks) {s with toks:=s.toks+1}→wpAny (model X.prog X.w) X.A (f (.int i t) (.int j u)) Q E s) :
  OpR X f (rI0 fun i j=>.int (g i j)):=by
 intro pins s σ H x y v u Q I rx ry h
 obtain⟨i,j,rfl,rfl,q⟩:=h
 obtain⟨t,rfl⟩:=rx
 obtain⟨t',rfl⟩:=ry
 exact rule i j t t' s _ _ ⟨.int (g i j),H,I.tok _,⟨_,rfl⟩,q⟩
theorem opB0 {f:Value→Value→Sem Value} {g:Int→Int→Bool}
  (rule:∀ (i j:Int) (t u:Tok) (s:Shared) (Q:Value→Shared→Prop) (E:Value→Shared→Prop),Q (.bool (g i j)) s→wpAny (model X.prog X.w) X.A (f (.int i t) (.int j u)) Q E s) :
  OpR X f (rI0 fun i j=>.bl (g i j)):=by
 intro pins s σ H x y v u Q I rx ry h
 obtain⟨i,j,rfl,rfl,q⟩:=h
 obtain⟨t,rfl⟩:=rx
 obtain⟨t',rfl⟩:=ry
 exact rule i j t t' s _ _ ⟨.bl (g i j),H,I,rfl,q⟩
def CDiv (i j:Int):Prop:=0<j∧j<1073741824
def CPow (i j:Int):Prop:=0≤j∧j≤1000000∧i.natAbs<2 ^ 64
def CMul (i j:Int):Prop:=(-(2 ^ 64)<i∧i<2 ^ 64)∨(-(2 ^ 64)<j∧j<2 ^ 64)
theorem CMul.ok {i j:Int} (h:CMul i j):IntMulOk i j:=by
 rcases h with ⟨h1,h2⟩ | ⟨h1,h2⟩
 ·exact .of_left (intBits_le_64 h1 h2)
 ·exact .of_right (intBits_le_64 h1 h2)
theorem op_add:OpR X (binaryOp .Add) (rI0 fun i j=>.int (i+j)):=opI0 fun _ _ _ _ _ _ _ q=>add_int q
theorem op_sub:OpR X (binaryOp .Sub) (rI0 fun i j=>.int (i-j)):=opI0 fun _ _ _ _ _ _ _ q=>sub_int q
theorem op_mul:OpR X (binaryOp .Mult) (rI CMul fun i j=>.int (i*j)):=opI fun _ _ _ _ _ _ _ hc q=>mul_int q hc.ok
theorem op_fdiv:OpR X (binaryOp .FloorDiv) (rI CDiv fun i j=>.int (i / j)):=opI fun i j _ _ _ _ _ hc q=>by
 have h1:(0:Int)<j:=hc.1
 have h2:j<1073741824:=hc.2
 exact floordiv_int (by omega) (by rw [Int.fdiv_eq_ediv_of_nonneg i (by omega)]; exact q) (.inl (PyProof.noPylong_small (by omega)))
theorem op_mod:OpR X (binaryOp .Mod) (rI (fun _ j=>0<j) fun i j=>.int (i % j)):=opI fun i j _ _ _ _ _ hc q=>by
 have h1:(0:Int)<j:=hc
 exact mod_int' (by omega) (by rw [Int.fmod_eq_emod_of_nonneg i (by omega)]; exact q)
theorem op_pow:OpR X (binaryOp .Pow) (rI CPow fun i j=>.int (i ^ j.toNat)):=opI fun _ _ _ _ _ _ _ hc q=>pow_int_small hc.1 hc.2.1 hc.2.2 q
theorem iop_mul:OpR X (inplaceOp .Mult) (rI CMul fun i j=>.int (i*j)):=opI fun _ _ _ _ _ _ _ hc q=>imul_int q hc.ok
theorem unI {f:Value→Sem Value} {g:Int→Int}
  (rule:∀ (i:Int) (t:Tok) (s:Shared) (Q:Value→Shared→Prop) (E:Value→Shared→Prop),Q (.int (g i) s.toks) {s with toks:=s.toks+1}→wpAny (model X.prog X.w) X.A (f (.int i t)) Q E s) :
  UnR X f (rU fun i=>.int (g i)):=by
 intro pins s σ H x v Q I rx h
 obtain⟨i,rfl,q⟩:=h
 obtain⟨t,rfl⟩:=rx
 exact rule i t s _ _ ⟨.int (g i),H,I.tok _,⟨_,rfl⟩,q⟩
theorem un_neg:UnR X (unaryOp .USub) (rU fun i=>.int (-i)):=unI fun _ _ _ _ _ q=>neg_int q
end
def scal:V→V→Bool
 | .non,.non=>true | .non,.int _=>true | .int _,.non=>true | .non,.bl _=>true | .bl _,.non=>true | .non,.str _=>true | .str _,.non=>true
 | .int _,.int _=>true | .bl _,.bl _=>true | .str _,.str _=>true | .byt _,.byt _=>true
 | .int _,.str _=>true | .str _,.int _=>true | .bl _,.str _=>true | .str _,.bl _=>true
 | _,_=>false
def rEq:R2:=fun x y H Q=>scal x y=true∧Q (.bl (decide (x=y))) H
def rNe:R2:=fun x y H Q=>scal x y=true∧Q (.bl (!decide (x=y))) H
theorem dec_int {i j:Int}:decide (V.int i=V.int j)=(i==j):=by
 rw [Bool.eq_iff_iff]
 simp
theorem dec_bl {i j:Bool}:decide (V.bl i=V.bl j)=(i==j):=by
 rw [Bool.eq_iff_iff]
 simp
theorem dec_str {i j:Str}:decide (V.str i=V.str j)=(i==j):=by
 rw [Bool.eq_iff_iff]
 simp
theorem dec_byt {i j:Array UInt8}:decide (V.byt i=V.byt j)=(i.toList==j.toList):=by
 rw [Bool.eq_iff_iff]
 cases i
 cases j
 simp
section
variable {X:Cx} {a b c:Expr} {ta tb tc:TE} {pos:Pos}
theorem fin_bl {pins:List (Addr×Obj)} {σ:St} {H:Hp} {s:Shared} {Q:VK} {k k':Bool} (I:Inv X pins σ H s) (q:Q (.bl k) H) (e:k=k'):EP X pins σ Q (.bool k') s:=by
 subst e
 exact⟨.bl k,H,I,rfl,q⟩
theorem op_eq:OpR X (compareOp .Eq) rEq:=by
 intro pins s σ H x y v u Q I rx ry h
 obtain⟨hs,q⟩:=h
 cases x with
 | non=>
  cases rx
  cases y with
  | non=>cases ry; exact PySem.EqNone.eq_none_none (fin_bl I q (by simp))
  | bl j=>cases ry; exact PySem.EqNone.eq_none_bool (fin_bl I q (by simp))
  | int j=>obtain⟨t',rfl⟩:=ry; exact PySem.EqNone.eq_none_int (fin_bl I q (by simp))
  | str j=>obtain⟨t',rfl⟩:=ry; exact PySem.EqNone.eq_none_str (fin_bl I q (by simp))
  | _=>exact absurd (show false=true from hs) Bool.false_ne_true
 | bl i=>
  cases rx
  cases y with
  | non=>cases ry; exact PySem.EqNone.eq_bool_none (fin_bl I q (by simp))
  | bl j=>cases ry; exact eq_bool (fin_bl I q dec_bl)
  | str j=>obtain⟨t',rfl⟩:=ry; exact PySem.EqMixed.eq_bool_str (fin_bl I q (by simp))
  | _=>exact absurd (show false=true from hs) Bool.false_ne_true
 | int i=>
  obtain⟨t,rfl⟩:=rx
  cases y with
  | non=>cases ry; exact PySem.EqNone.eq_int_none (fin_bl I q (by simp))
  | int j=>obtain⟨t',rfl⟩:=ry; exact eq_int (fin_bl I q dec_int)
  | str j=>obtain⟨t',rfl⟩:=ry; exact PySem.EqMixed.eq_int_str (fin_bl I q (by simp))
  | _=>exact absurd (show false=true from hs) Bool.false_ne_true
 | str i=>
  obtain⟨t,rfl⟩:=rx
  cases y with
  | non=>cases ry; exact PySem.EqNone.eq_str_none (fin_bl I q (by simp))
  | bl j=>cases ry; exact PySem.EqMixed.eq_str_bool (fin_bl I q (by simp))
  | int j=>obtain⟨t',rfl⟩:=ry; exact PySem.EqMixed.eq_str_int (fin_bl I q (by simp))
  | str j=>obtain⟨t',rfl⟩:=ry; exact eq_str (fin_bl I q dec_str)
  | _=>exact absurd (show false=true from hs) Bool.false_ne_true
 | byt i=>
  obtain⟨t,rfl⟩:=rx
  cases y with
  | byt j=>obtain⟨t',rfl⟩:=ry; exact PySem.W.eq_bytes (fin_bl I q dec_byt)
  | _=>exact absurd (show false=true from hs) Bool.false_ne_true
 | _=>cases y <;> exact absurd (show false=true from hs) Bool.false_ne_true
theorem op_ne:OpR X (compareOp .NotEq) rNe:=by
 intro pins s σ H x y v u Q I rx ry h
 obtain⟨hs,q⟩:=h
 cases x with
 | non=>
  cases rx
  cases y with
  | non=>cases ry; exact PySem.EqNone.ne_none_none (fin_bl I q (by simp))
  | bl j=>cases ry; exact PySem.EqNone.ne_none_bool (fin_bl I q (by simp))
  | int j=>obtain⟨t',rfl⟩:=ry; exact PySem.EqNone.ne_none_int (fin_bl I q (by simp))
  | str j=>obtain⟨t',rfl⟩:=ry; exact PySem.EqNone.ne_none_str (fin_bl I q (by simp))
  | _=>exact absurd (show false=true from hs) Bool.false_ne_true
 | bl i=>
  cases rx
  cases y with
  | non=>cases ry; exact PySem.EqNone.ne_bool_none (fin_bl I q (by simp))
  | bl j=>cases ry; exact ne_bool (fin_bl I q (congrArg not dec_bl))
  | str j=>obtain⟨t',rfl⟩:=ry; exact PySem.EqMixed.ne_bool_str (fin_bl I q (by simp))
  | _=>exact absurd (show false=true from hs) Bool.false_ne_true
 | int i=>
  obtain⟨t,rfl⟩:=rx
  cases y with
  | non=>cases ry; exact PySem.EqNone.ne_int_none (fin_bl I q (by simp))
  | int j=>obtain⟨t',rfl⟩:=ry; exact ne_int (fin_bl I q (congrArg not dec_int))
  | str j=>obtain⟨t',rfl⟩:=ry; exact PySem.EqMixed.ne_int_str (fin_bl I q (by simp))
  | _=>exact absurd (show false=true from hs) Bool.false_ne_true
 | str i=>
  obtain⟨t,rfl⟩:=rx
  cases y with
  | non=>cases ry; exact PySem.EqNone.ne_str_none (fin_bl I q (by simp))
  | bl j=>cases ry; exact PySem.EqMixed.ne_str_bool (fin_bl I q (by simp))
  | int j=>obtain⟨t',rfl⟩:=ry; exact PySem.EqMixed.ne_str_int (fin_bl I q (by simp))
  | str j=>obtain⟨t',rfl⟩:=ry; exact ne_str (fin_bl I q (congrArg not dec_str))
  | _=>exact absurd (show false=true from hs) Bool.false_ne_true
 | byt i=>
  obtain⟨t,rfl⟩:=rx
  cases y with
  | byt j=>obtain⟨t',rfl⟩:=ry; exact PySem.W.ne_bytes (fin_bl I q (congrArg not dec_byt))
  | _=>exact absurd (show false=true from hs) Bool.false_ne_true
 | _=>cases y <;> exact absurd (show false=true from hs) Bool.false_ne_true
theorem op_lt:OpR X (compareOp .Lt) (rI0 fun i j=>.bl (decide (i<j))):=opB0 fun _ _ _ _ _ _ _ q=>lt_int q
theorem op_le:OpR X (compareOp .LtE) (rI0 fun i j=>.bl (decide (i≤j))):=opB0 fun _ _ _ _ _ _ _ q=>le_int q
theorem op_gt:OpR X (compareOp .Gt) (rI0 fun i j=>.bl (decide (j<i))):=opB0 fun _ _ _ _ _ _ _ q=>gt_int q
theorem op_in_str:OpR X (compareOp .In) (fun x y H Q=>∃ i j,x=.str i∧y=.str j∧Q (.bl (!(Builtin.Str.occurrences j i 0 j.length 1).isEmpty)) H):=by
 intro pins s σ H x y v u Q I rx ry h
 obtain⟨i,j,rfl,rfl,q⟩:=h
 obtain⟨t,rfl⟩:=rx
 obtain⟨t',rfl⟩:=ry
 exact in_str (fin_bl I q rfl)
theorem nomark (b:Expr) {op:CmpOp} (h:op≠.In:=by decide) (h2:op≠.NotIn:=by decide):behindInMarks op b=false:=by
 have e1:(op==CmpOp.In)=false:=by cases op <;> first | rfl | exact absurd rfl h
 have e2:(op==CmpOp.NotIn)=false:=by cases op <;> first | rfl | exact absurd rfl h2
 cases b <;> simp [behindInMarks,e1,e2]
theorem pe_cmpR {op:CmpOp} {r:R2} (ho:OpR X (compareOp op) r) (ha:PE X a ta) (hb:PE X b tb) (hm:behindInMarks op b=false):PE X (.Compare a [op] [b] pos) (tOp r ta tb):=by
 intro pins s σ H Q I h
 exact wpAny_Compare1 (binT ha hb I h fun v u s2 x y H2 I2 rx ry q=>ho pins s2 σ H2 x y v u Q I2 rx ry q) hm
def tTest (t:TE):TT:=fun σ H Q=>t σ H fun x H'=>∃ k,x=.bl k∧Q k H'
theorem pt_cmpR {op:CmpOp} {r:R2} (ho:OpR X (compareOp op) r) (ha:PE X a ta) (hb:PE X b tb) (hm:behindInMarks op b=false):PT X (.Compare a [op] [b] pos) (tTest (tOp r ta tb)):=by
 intro pins s σ H Q I h
 refine wpAny_isTrue_Compare1 (thn (ha pins s σ H _ I h) fun v s1 ⟨x,H1,I1,r1,q1⟩=>thn (hb pins s1 σ H1 _ I1 q1) fun u s2 ⟨y,H2,I2,r2,q2⟩=>
  thn (ho pins s2 σ H2 x y v u _ I2 r1 r2 q2) fun c s3 ⟨z,H3,I3,r3,k,e,q3⟩=>?_) hm
 subst e
 cases r3
 exact wpAny_truthy_bool ⟨H3,I3,q3⟩
def tChain (r r':R2) (ta tb tc:TE):TE:=fun σ H Q=>ta σ H fun x H1=>tb σ H1 fun y H2=>r x y H2 fun z H3=>∃ k,z=.bl k∧
 (if k=true then tc σ H3 fun w' H4=>r' y w' H4 Q else Q (.bl false) H3)
theorem pt_chain {op op':CmpOp} {r r':R2} (ho:OpR X (compareOp op) r) (ho':OpR X (compareOp op') r') (ha:PE X a ta) (hb:PE X b tb) (hc:PE X c tc)
  (hm:lastMarks [op,op'] [b,c]=false:=by with_unfolding_all rfl):PT X (.Compare a [op,op'] [b,c] pos) (tTest (tChain r r' ta tb tc)):=by
 intro pins s σ H Q I h
 refine isTrue_chain (thn (ha pins s σ H _ I h) fun v s1 ⟨x,H1,I1,r1,q1⟩=>test_link (thn (hb pins s1 σ H1 _ I1 q1) fun u s2 ⟨y,H2,I2,r2,q2⟩=>
  thn (ho pins s2 σ H2 x y v u _ I2 r1 r2 q2) fun d s3 ⟨z,H3,I3,r3,k,e,q3⟩=>?_)) hm
 subst e
 cases r3
 refine wpAny_truthy_bool ?_
 cases k with
 | false=>
  obtain⟨k',e',q'⟩:=q3
  cases e'
  exact ite_ff ⟨H3,I3,q'⟩
 | true=>
  refine ite_tt (test_last (thn (hc pins s3 σ H3 _ I3 q3) fun w' s4 ⟨z',H4,I4,r4,q4⟩=>thn (ho' pins s4 σ H4 y z' u w' _ I4 r2 r4 q4) fun d' s5 ⟨z2,H5,I5,r5,k2,e2,q5⟩=>?_))
  subst e2
  cases r5
  exact wpAny_truthy_bool ⟨H5,I5,q5⟩
theorem line63:(sizeLine:Nat)<2 ^ 63:=by rw [sizeLine_eq]; decide
theorem vals1 {x:V} {us:List Value} (r:Vals [x] us):∃ u,us=[u]∧RelV x u:=by
 cases r with
 | cons r1 r2=>cases r2; exact⟨_,rfl,r1⟩
theorem vals2 {x y:V} {us:List Value} (r:Vals [x,y] us):∃ u w',us=[u,w']∧RelV x u∧RelV y w':=by
 cases r with
 | cons r1 r2=>
  cases r2 with
  | cons r3 r4=>cases r4; exact⟨_,_,rfl,r1,r3⟩
theorem call_abs:CallR X (.builtin "abs") (fun xs H Q=>∃ i,xs=[.int i]∧Q (.int (if i<0 then -i else i)) H):=by
 intro pins s σ H xs us Q I r h
 obtain⟨i,rfl,q⟩:=h
 obtain⟨u,rfl,t,rfl⟩:=vals1 r
 exact call_abs_int fun u tk=>⟨.int (if i<0 then -i else i),H,I.tok _,⟨_,rfl⟩,q⟩
theorem call_max2 (hc:X.calm=true):CallR X (.builtin "max") (fun xs H Q=>∃ i j,xs=[.int i,.int j]∧Q (.int (if j > i then j else i)) H):=by
 intro pins s σ H xs us Q I r h
 obtain⟨i,j,rfl,q⟩:=h
 obtain⟨u,w',rfl,⟨t,rfl⟩,⟨t',rfl⟩⟩:=vals2 r
 refine max_two_ints (I.ok.hd hc) fun h' tk k=>⟨_,H,I.kept k,?_,q⟩
 by_cases hj:j > i
 ·rw [if_pos hj,if_pos hj]; exact⟨_,rfl⟩
 ·rw [if_neg hj,if_neg hj]; exact⟨_,rfl⟩
theorem call_min2 (hc:X.calm=true):CallR X (.builtin "min") (fun xs H Q=>∃ i j,xs=[.int i,.int j]∧Q (.int (if j<i then j else i)) H):=by
 intro pins s σ H xs us Q I r h
 obtain⟨i,j,rfl,q⟩:=h
 obtain⟨u,w',rfl,⟨t,rfl⟩,⟨t',rfl⟩⟩:=vals2 r
 refine min_two_ints (I.ok.hd hc) fun h' tk k=>⟨_,H,I.kept k,?_,q⟩
 by_cases hj:j<i
 ·rw [if_pos hj,if_pos hj]; exact⟨_,rfl⟩
 ·rw [if_neg hj,if_neg hj]; exact⟨_,rfl⟩
theorem call_divmod:CallR X (.builtin "divmod") (fun xs H Q=>∃ i j,xs=[.int i,.int j]∧CDiv i j∧∀ p,H p=none→Q (.ref p) (upd H p (.tup [.int (i / j),.int (i % j)]))):=by
 intro pins s σ H xs us Q I r h
 obtain⟨i,j,rfl,⟨h1,h2⟩,q⟩:=h
 obtain⟨u,w',rfl,⟨t,rfl⟩,⟨t',rfl⟩⟩:=vals2 r
 refine divmod_int (by omega) ?_ (.inl (PyProof.noPylong_small (by omega)))
 rw [Int.fdiv_eq_ediv_of_nonneg i (by omega),Int.fmod_eq_emod_of_nonneg i (by omega)]
 have hn:H s.heap.objs.size=none:=I.hok.fresh (Nat.le_refl _)
 refine⟨.ref s.heap.objs.size,_,?_,rfl,q _ hn⟩
 refine I.laid (fun b o e=>Heap.get?_push_of_some _ e) (Nat.le_refl _) ⟨by simp only [List.length_cons,List.length_nil]; rw [sizeLine_eq]; decide,[.int (i / j) s.toks,.int (i % j) (s.toks+1)],.cons ⟨_,rfl⟩ (.cons ⟨_,rfl⟩ .nil),?_⟩
 exact⟨_,Heap.get?_push_size s.heap rfl,rfl,0,rfl⟩
end
structure ObjM (h:Heap) (x dx C:Addr) (mA:Str→Option Value):Prop where
 obj:h.get? x=some (PySem.W.instObj C dx)
 ns:h.Ns1 dx mA
 ne:dx≠x
theorem lookIn_ns {h:Heap} {dx:Addr} {mA:Str→Option Value} (n:h.Ns1 dx mA):∃ od,h.get? dx=some od∧∀ name,PySem.W.lookIn name od=some (mA name):=by
 obtain⟨o,es,ep,ho,hd,hk,_,hm⟩:=n
 refine⟨o,ho,fun name=>?_⟩
 have e:=hm name
 unfold nsFind findBy at e
 rw [← Array.find?_toList] at e
 unfold PySem.W.lookIn
 rw [hd]
 dsimp only
 split
 ·rename_i y q
  rw [q] at e
  exact congrArg some e
 ·rename_i q
  rw [q] at e
  have a:es.toList.any (·.refKey)=false:=by
   rw [List.any_eq_false]
   intro y hy
   obtain⟨z,t,hkey⟩:=hk y (Array.mem_toList_iff.mp hy)
   simp [DictEntry.refKey,hkey]
  have a':¬ es.toList.any (·.refKey)=true:=by rw [a]; exact Bool.false_ne_true
  rw [if_neg a']
  exact congrArg some e
theorem ObjM.look {h:Heap} {x dx C:Addr} {mA:Str→Option Value} (I:ObjM h x dx C mA):∃ od,PySem.W.InstAt h x (PySem.W.instObj C dx) C (some od)∧∀ name,PySem.W.lookIn name od=some (mA name):=
 let ⟨od,ho,hl⟩:=lookIn_ns I.ns
 ⟨od,⟨I.obj,rfl,rfl,ho⟩,hl⟩
section
variable {prog:Program} {w:World} {A:Around} {E:Value→Shared→Prop} {s:Shared} {K:PySem.W.Frag} {x dx C f:Addr} {mA:Str→Option Value} {name:Str} {v:Value}
theorem get_map {expr:Bool} {Q:Value→Shared→Prop} (X:K.In s.heap) (I:ObjM s.heap x dx C mA) (hg:PySem.W.plainGet K C name=true) (hh:PySem.W.hasDictIn K C=true)
  (ha:PySem.W.findIn K (.ref C) name=some none) (hv:mA name=some v) (hv':PySem.W.handedIn v=true) (h:Q v {s with toks:=s.toks+1}) :
  wpAny (model prog w) A (getAttr (.ref x) name expr) Q E s:=by
 obtain⟨od,J,hl⟩:=I.look
 exact PySem.W.get_value X J (PySem.W.plainGet_of hg).1 (PySem.W.findObj_own hh ha rfl (by rw [hl,hv])) hv' h
theorem get_meth {pl:Sem Bool} {Q:Value×List Value→Shared→Prop} (X:K.In s.heap) (I:ObjM s.heap x dx C mA) (hg:PySem.W.plainGet K C name=true)
  (hf:PySem.W.findIn K (.ref C) name=some (some (.ref f))) (ht:PySem.W.isFn K (.ref f)=true) (hv:mA name=none) (h:Q (.ref f,[.ref x]) s) :
  wpAny (model prog w) A (getMethod (.ref x) name pl) Q E s:=by
 obtain⟨od,J,hl⟩:=I.look
 exact PySem.W.method_fn X J (PySem.W.plainGet_of hg).1 (PySem.W.plainGet_of hg).2 hf (beq_iff_eq.mp ht) (by show (PySem.W.lookIn name od).map (·.isSome)=some false; rw [hl,hv]; rfl) h
theorem set_map {ns:List Str} {Q:Unit→Shared→Prop} (X:K.In s.heap) (I:ObjM s.heap x dx C mA)
  (hs:PySem.W.findIn K (.ref C) "__setattr__"=some (some (.builtin "object.__setattr__"))) (hp:PySem.W.plainOver K C=true) (ht:PySem.W.takerIn K C name=some none) (hh:PySem.W.hasDictIn K C=true)
  (hw:PySem.Within mA ns) (hsz:ns.length≤sizeLine)
  (h:∀ h',ObjM h' x dx C (fun y=>if y=name then some v else mA y)→Heap.SameBut dx s.heap h'→Q () {s with heap:=h',toks:=s.toks+2}) :
  wpAny (model prog w) A (setAttr (.ref x) name v) Q E s:=by
 obtain⟨od,J,hl⟩:=I.look
 refine PySem.W.set_plain X J hs (PySem.W.osa_open (s:={s with toks:=s.toks+1}) (r:=none) X J hp ht fun b=>?_)
 obtain⟨cd,hc,hd'⟩:=PySem.W.any_some hh
 have hx:s.heap.get? x=some ⟨.ref C,some dx,.plain,#[]⟩:=I.obj
 refine wpAny_bind (wpAny_pure (wpAny_bind (wpAny_bind (wpAny_loadPart hx (wpAny_bind (PySem.W.Looks.here (s:={s with toks:=s.toks+1}) (PySem.W.looks_clsIn X hc) ?_))))))
 rw [hd']
 refine wpAny_pure (a:=some dx) (wpAny_bind (wpAny_pure (wpAny_bind ?_)))
 refine wpAny_nsSet1 (s:={s with toks:=s.toks+1}) I.ns fun h' hn2 hs2=>?_
 obtain⟨oD,esD,epD,hoD,hdD,hcD⟩:=hn2.count (PySem.Within.cons name v hw)
 refine wpAny_bind (wpAny_lookBehind hoD (by rw [hdD]; exact pastItsLine_dict (Nat.le_trans hcD (by rw [List.length_cons]; omega))) ?_)
 exact wpAny_pure (h _ ⟨(hs2.2 _ (Ne.symm I.ne)).trans I.obj,hn2,I.ne⟩ hs2)
theorem make_map {R:Result→Shared→Prop} {vs:List Value} {kw:List (Str×Value)} (X:K.In s.heap) (hm:PySem.W.makesIn K C=true)
  (hi:PySem.W.findIn K (.ref C) "__init__"=some (some (.ref f))) (hf:PySem.W.typeIn K (.ref f)=some (.type "function"))
  (h:codeAny (model prog w) (A.under (.builtin "type.__call__" ⟨.ref C::vs,kw⟩)) (.call (.ref f) ⟨.ref (s.heap.objs.size+1)::vs,kw⟩) (PySem.W.InitBack (s.heap.objs.size+1) R)
   {s with heap:=(s.heap.push PySem.W.emptyDict).push (PySem.W.instObj C s.heap.objs.size)}) :
  codeAny (model prog w) A (.call (.ref C) ⟨vs,kw⟩) R s:=by
 obtain⟨hh,g,d,t,os⟩:=s
 exact PySem.W.make_core (PySem.W.makes_of X hm) (PySem.W.looks_findIn X hi) (fun self=>PySem.W.bind_fn X self hf) (.inl rfl) h
end
def putF (f:Str) (v:V):List (Str×V)→List (Str×V)
 | []=>[(f,v)]
 | (g,x)::r=>if g=f then (g,v)::r else (g,x)::putF f v r
theorem lookup_putF (f g:Str) (v:V):∀ fs:List (Str×V),(putF f v fs).lookup g=if g=f then some v else fs.lookup g
 | []=>by
  show List.lookup g [(f,v)]=_
  by_cases h:g=f
  ·have hb:(g==f)=true:=beq_iff_eq.mpr h
   simp only [List.lookup,hb,if_pos h]
  ·have hb:(g==f)=false:=beq_eq_false_iff_ne.mpr h
   simp only [List.lookup,hb,if_neg h]
 | (k,x)::r=>by
  have ih:=lookup_putF f g v r
  rw [show putF f v ((k,x)::r)=(if k=f then (k,v)::r else (k,x)::putF f v r) from rfl]
  by_cases hk:k=f
  ·rw [if_pos hk]
   by_cases h:g=k
   ·have hb:(g==k)=true:=beq_iff_eq.mpr h
    simp only [List.lookup,hb,if_pos (h.trans hk)]
   ·have hb:(g==k)=false:=beq_eq_false_iff_ne.mpr h
    simp only [List.lookup,hb,if_neg (fun e:g=f=>h (e.trans hk.symm))]
  ·rw [if_neg hk]
   by_cases h:g=k
   ·have hb:(g==k)=true:=beq_iff_eq.mpr h
    simp only [List.lookup,hb,if_neg (fun e:g=f=>hk (h.symm.trans e))]
   ·have hb:(g==k)=false:=beq_eq_false_iff_ne.mpr h
    simp only [List.lookup,hb]
    exact ih
theorem keys_putF (f:Str) (v:V):∀ fs:List (Str×V),f∈(putF f v fs).map (·.1)∧∀ g,g∈fs.map (·.1)→g∈(putF f v fs).map (·.1)
 | []=>⟨by simp [putF],fun g h=>by simp at h⟩
 | (k,x)::r=>by
  obtain⟨i1,i2⟩:=keys_putF f v r
  rw [show putF f v ((k,x)::r)=(if k=f then (k,v)::r else (k,x)::putF f v r) from rfl]
  by_cases hk:k=f
  ·rw [if_pos hk]
   subst hk
   exact⟨by simp,fun g h=>by simpa using h⟩
  ·rw [if_neg hk]
   refine⟨?_,fun g h=>?_⟩
   ·rw [List.map_cons]
    exact List.mem_cons_of_mem _ i1
   ·rw [List.map_cons] at h ⊢
    rcases List.mem_cons.mp h with e | e
    ·exact List.mem_cons.mpr (.inl e)
    ·exact List.mem_cons_of_mem _ (i2 g e)
theorem length_putF (f:Str) (v:V):∀ fs:List (Str×V),(putF f v fs).length≤fs.length+1
 | []=>by simp [putF]
 | (k,x)::r=>by
  have ih:=length_putF f v r
  rw [show putF f v ((k,x)::r)=(if k=f then (k,v)::r else (k,x)::putF f v r) from rfl]
  by_cases hk:k=f
  ·rw [if_pos hk,List.length_cons,List.length_cons]; omega
  ·rw [if_neg hk,List.length_cons,List.length_cons]; omega
theorem RelO.some_of {v:V} {o:Option Value} (r:RelO (some v) o):∃ u,o=some u∧RelV v u:=by
 cases o with
 | none=>exact(show False from r).elim
 | some u=>exact⟨u,rfl,r⟩
theorem RelO.none_of {o:Option Value} (r:RelO none o):o=none:=by
 cases o with
 | none=>rfl
 | some u=>exact(show False from r).elim
theorem handed_of {v:V} {u:Value} (r:RelV v u):PySem.W.handedIn u=true:=by
 cases v with
 | non=>cases (show u=Value.none from r); rfl
 | bl b=>cases (show u=Value.bool b from r); rfl
 | int i=>obtain⟨t,e⟩:=(show ∃ t,u=Value.int i t from r); cases e; rfl
 | str x=>obtain⟨t,e⟩:=(show ∃ t,u=Value.str x t from r); cases e; rfl
 | byt b=>obtain⟨t,e⟩:=(show ∃ t,u=Value.bytes b t from r); cases e; rfl
 | flt b=>obtain⟨t,e⟩:=(show ∃ t,u=Value.float b t from r); cases e; rfl
 | ref a=>cases (show u=Value.ref a from r); rfl
 | ty n=>cases (show u=Value.type n from r); rfl
section
variable {P:Program} {w:World} {H H':Hp} {h h':Heap} {a C dx:Addr} {fs fs':List (Str×V)}
theorem ins_get (hok:HOk P w H h) (e:H a=some (.ins C dx fs)):∃ mA,ObjM h a dx C mA∧(∀ f,RelO (fs.lookup f) (mA f))∧PySem.Within mA (fs.map (·.1))∧fs.length≤1000∧H dx=some (.own a):=by
 obtain⟨d,z,ne,ob,mA,n,r,q⟩:=(show ObjOk P w H h a (.ins C dx fs) from hok a _ e)
 exact⟨mA,⟨ob,n,ne⟩,r,q,z,d⟩
end
structure Cls (K:PySem.W.Frag) (C:Addr):Prop where
 pg:PySem.W.plainGet K C Str.empty=true
 hd:PySem.W.hasDictIn K C=true
 po:PySem.W.plainOver K C=true
 sa:PySem.W.findIn K (.ref C) "__setattr__"=some (some (.builtin "object.__setattr__"))
theorem Cls.get {K:PySem.W.Frag} {C:Addr} (c:Cls K C) (f:Str):PySem.W.plainGet K C f=true:=c.pg
def NoAttr (K:PySem.W.Frag) (C:Addr) (f:Str):Prop:=PySem.W.findIn K (.ref C) f=some none
theorem NoAttr.taker {K:PySem.W.Frag} {C:Addr} {f:Str} (n:NoAttr K C f):PySem.W.takerIn K C f=some none:=by
 unfold PySem.W.takerIn
 rw [show PySem.W.findIn K (.ref C) f=some none from n]
 rfl
structure Meth (K:PySem.W.Frag) (C:Addr) (m:Str) (f:Addr):Prop where
 at_:PySem.W.findIn K (.ref C) m=some (some (.ref f))
 fn:PySem.W.isFn K (.ref f)=true
 kp:PySem.W.keepIn K (.ref f)=true
section
variable {X:Cx} {pins:List (Addr×Obj)} {σ:St} {H:Hp} {s:Shared} {a C dx:Addr} {fs:List (Str×V)} {f:Str} {v:V} {A:Around} {E:Value→Shared→Prop}
theorem getattr_ok {b:Bool} {Q:Value→Shared→Prop} (I:Inv X pins σ H s) (e:H a=some (.ins C dx fs)) (c:Cls X.K C) (n:NoAttr X.K C f) (l:fs.lookup f=some v)
  (h:∀ u s',Inv X pins σ H s'→RelV v u→Q u s'):wpAny (model X.prog X.w) A (getAttr (.ref a) f b) Q E s:=by
 obtain⟨mA,O,r,_,_,_⟩:=ins_get I.hok e
 obtain⟨u,hu,ru⟩:=RelO.some_of (v:=v) (o:=mA f) (by rw [← l]; exact r f)
 exact get_map I.kIn O (c.get f) c.hd n hu (handed_of ru) (h u _ (I.tok _) ru)
theorem getmeth_ok {m:Str} {g:Addr} {pl:Sem Bool} {Q:Value×List Value→Shared→Prop} (I:Inv X pins σ H s) (e:H a=some (.ins C dx fs)) (c:Cls X.K C) (k:Meth X.K C m g) (l:fs.lookup m=none)
  (h:Q (.ref g,[.ref a]) s):wpAny (model X.prog X.w) A (getMethod (.ref a) m pl) Q E s:=by
 obtain⟨mA,O,r,_,_,_⟩:=ins_get I.hok e
 have hn:mA m=none:=RelO.none_of (by rw [← l]; exact r m)
 exact get_meth I.kIn O (c.get m) k.at_ k.fn hn h
theorem setattr_ok {y:V} {u:Value} {Q:Unit→Shared→Prop} (I:Inv X pins σ H s) (e:H a=some (.ins C dx fs)) (c:Cls X.K C) (n:NoAttr X.K C f) (hl:fs.length<1000) (ry:RelV y u)
  (h:∀ s',Inv X pins σ (upd H a (.ins C dx (putF f y fs))) s'→Q () s'):wpAny (model X.prog X.w) A (setAttr (.ref a) f u) Q E s:=by
 obtain⟨mA,O,r,wi,_,ho⟩:=ins_get I.hok e
 have hz:(fs.map (·.1)).length≤sizeLine:=by rw [List.length_map,sizeLine_eq]; omega
 refine set_map I.kIn O c.sa c.po n.taker c.hd wi hz fun h' O' sb=>h _ ?_
 have hd:∃ o,h'.get? dx=some o:=let ⟨o,_,_,e',_⟩:=O'.ns; ⟨o,e'⟩
 refine I.write (x:=a) (e:=dx) (by rw [e]; exact True.intro) (.inr ho) (fun b q hb z=>(sb.2 b hb).trans z) hd ?_
 refine⟨by rw [upd_ne O.ne]; exact ho,?_,O.ne,O'.obj,_,O'.ns,fun g=>?_,fun g hg=>?_⟩
 ·have:=length_putF f y fs; omega
 ·show RelO ((putF f y fs).lookup g) (if g=f then some u else mA g)
  rw [lookup_putF]
  by_cases q:g=f
  ·rw [if_pos q,if_pos q]; exact ry
  ·rw [if_neg q,if_neg q]; exact r g
 ·by_cases q:g=f
  ·rw [q]; exact(keys_putF f y fs).1
  ·refine(keys_putF f y fs).2 g (wi g fun z=>hg ?_)
   show (if g=f then some u else mA g)=none
   rw [if_neg q]; exact z
theorem Inv.made (I:Inv X pins σ H s):Inv X pins σ (upd (upd H s.heap.objs.size (.own (s.heap.objs.size+1))) (s.heap.objs.size+1) (.ins C s.heap.objs.size []))
  {s with heap:=(s.heap.push PySem.W.emptyDict).push (PySem.W.instObj C s.heap.objs.size)}:=by
 have e1:(s.heap.push PySem.W.emptyDict).get? s.heap.objs.size=some PySem.W.emptyDict:=Heap.get?_push_size s.heap rfl
 have e2:((s.heap.push PySem.W.emptyDict).push (PySem.W.instObj C s.heap.objs.size)).get? (s.heap.objs.size+1)=some (PySem.W.instObj C s.heap.objs.size):=by
  have:=Heap.get?_push_size (s.heap.push PySem.W.emptyDict) (o:=PySem.W.instObj C s.heap.objs.size) rfl
  rwa [Heap.size_push] at this
 have e3:(s.heap.push PySem.W.emptyDict).Ns s.heap.objs.size (fun _=>none):=⟨PySem.W.emptyDict,#[],_,e1,rfl,(fun e he=>absurd he (by simp)),fun _=>rfl⟩
 have I1:=I.laid (a:=s.heap.objs.size) (o:=.own (s.heap.objs.size+1)) (h':=s.heap.push PySem.W.emptyDict) (t':=s.toks) (fun b u q=>Heap.get?_push_of_some _ q) (Nat.le_refl _) ⟨_,e1⟩
 refine I1.laid (a:=s.heap.objs.size+1) (o:=.ins C s.heap.objs.size []) (t':=s.toks) (fun b u q=>Heap.get?_push_of_some _ q) (Nat.le_of_eq (Heap.size_push _ _)) ?_
 have ne:s.heap.objs.size≠s.heap.objs.size+1:=Nat.ne_of_lt (Nat.lt_succ_self _)
 refine⟨by rw [upd_ne ne,upd_same],Nat.zero_le _,ne,e2,fun _=>none,(Heap.Ns1.of_empty e3).at fun o q=>Heap.get?_push_of_some _ q,fun _=>True.intro,fun y hy=>absurd rfl hy⟩
theorem attr_of {prog:Program} {w:World} {env:Env} {e:Expr} {f:Str} {pos:Pos} {s:Shared} {Q:Value→Shared→Prop} (hb:attributeBase e f env (eval e env)=eval e env)
  (h:wpAny (model prog w) A (eval e env) (fun o s₁=>wpAny (model prog w) A (getAttr o f true) Q E s₁) E s):wpAny (model prog w) A (eval (.Attribute e f pos) env) Q E s:=
 Attribute_any_ h (by rw [arm_eval_Attribute,hb])
end
def tFld (K:PySem.W.Frag) (ta:TE) (f:Str):TE:=fun σ H Q=>ta σ H fun x H1=>∃ a C dx fs v,x=.ref a∧H1 a=some (.ins C dx fs)∧Cls K C∧NoAttr K C f∧fs.lookup f=some v∧Q v H1
def sFld (K:PySem.W.Frag) (ta tv:TE) (f:Str):TS:=fun D σ H=>tv σ H fun y H1=>ta σ H1 fun x H2=>∃ a C dx fs,x=.ref a∧H2 a=some (.ins C dx fs)∧Cls K C∧NoAttr K C f∧fs.length<1000∧
 D.nx σ (upd H2 a (.ins C dx (putF f y fs)))
section
variable {X:Cx} {o e value:Expr} {f:Str} {pos pos' tpos:Pos} {ta tv:TE}
theorem pe_fld (he:PE X e ta) (hb:attributeBase e f X.env (eval e X.env)=eval e X.env):PE X (.Attribute e f pos) (tFld X.K ta f):=by
 intro pins s σ H Q I h
 refine attr_of hb (thn (he pins s σ H _ I h) fun u s1 ⟨x,H1,I1,rx,a,C,dx,fs,v,ex,ea,c,n,l,q⟩=>?_)
 subst ex
 obtain rfl:u=Value.ref a:=rx
 exact getattr_ok I1 ea c n l fun u' s2 I2 ru=>⟨v,H1,I2,ru,q⟩
theorem ps_fld (ha:PE X o ta) (hv:PE X value tv) (hs:swapsWith value (some (.Attribute o f pos')) pos.line X.env=pure false):PS X (.Assign [.Attribute o f pos'] value pos) (sFld X.K ta tv f):=by
 intro pins s σ H D I h
 refine plainObj_wpAny_Assign_Attribute (thn (hv pins s σ H _ I h) fun u s1 ⟨y,H1,I1,ry,q⟩=>thn (ha pins s1 σ H1 _ I1 q) fun ov s2 ⟨x,H2,I2,rx,a,C,dx,fs,ex,ea,c,n,l,q2⟩=>?_) hs
 subst ex
 obtain rfl:ov=Value.ref a:=rx
 exact setattr_ok I2 ea c n l ry fun s3 I3=>⟨σ,_,I3,q2⟩
end
section
variable {X:Cx} {pins:List (Addr×Obj)} {σ:St} {H:Hp} {s:Shared} {A:Around} {E:Value→Shared→Prop} {Q:Value→Shared→Prop} {c:Value} {b:Bool}
inductive TyOf (K:PySem.W.Frag) (H:Hp):V→Value→Prop where
 | non:TyOf K H .non (.type "NoneType")
 | bl (x:Bool):TyOf K H (.bl x) (.type "bool")
 | int (i:Int):TyOf K H (.int i) (.type "int")
 | str (x:Str):TyOf K H (.str x) (.type "str")
 | flt (x:UInt64):TyOf K H (.flt x) (.type "float")
 | lst {a:Addr} {xs:List V} (e:H a=some (.lst xs)):TyOf K H (.ref a) (.type "list")
 | frz {a:Addr} {o:Obj} {xs:List V} (e:H a=some (.frz o (.lst xs))):TyOf K H (.ref a) (.type "list")
 | tup {a:Addr} {xs:List V} (e:H a=some (.tup xs)):TyOf K H (.ref a) (.type "tuple")
 | dK {a:Addr} {kvs:List (Key×V)} (e:H a=some (.dK kvs)):TyOf K H (.ref a) (.type "dict")
 | dT {a:Addr} {kvs:List (List Key×V)} (e:H a=some (.dT kvs)):TyOf K H (.ref a) (.type "dict")
 | ins {a C dx:Addr} {fs:List (Str×V)} (e:H a=some (.ins C dx fs)) (cl:Cls K C) (ha:PySem.W.findIn K (.ref C) "__class__"=some (some (.builtin "object.__class__")))
   (hn:PySem.W.specialIn K (.builtin "object.__class__") "__get__"=some (some (.builtin "getset_descriptor.__get__"))) (htk:PySem.W.takesIn K (.builtin "object.__class__")=some true)
   (hm:PySem.W.mroIn K C (.type "object")=some true):TyOf K H (.ref a) (.ref C)
theorem isinst_ok {x:V} {u t:Value} (I:Inv X pins σ H s) (rx:RelV x u) (ty:TyOf X.K H x t) (e:PySem.W.kitOne X.K t c=some b) (h:∀ tk,Q (.bool b) {s with toks:=tk}) :
  wpAny (model X.prog X.w) A (call (.builtin "isinstance") [u,c]) Q E s:=by
 cases ty with
 | non=>cases (show u=Value.none from rx); exact PySem.W.kia_one PySem.W.kitx_none I.kIn True.intro e (fun z=>nomatch z) h
 | bl y=>cases (show u=Value.bool y from rx); exact PySem.W.kia_one PySem.W.kitx_bool I.kIn True.intro e (fun z=>nomatch z) h
 | int i=>obtain⟨t,q⟩:=(show ∃ t,u=Value.int i t from rx); cases q; exact PySem.W.kia_one PySem.W.kitx_int I.kIn True.intro e (fun z=>nomatch z) h
 | str y=>obtain⟨t,q⟩:=(show ∃ t,u=Value.str y t from rx); cases q; exact PySem.W.kia_one PySem.W.kitx_str I.kIn True.intro e (fun z=>nomatch z) h
 | flt y=>obtain⟨t,q⟩:=(show ∃ t,u=Value.float y t from rx); cases q; exact PySem.W.kia_one PySem.W.kitx_float I.kIn True.intro e (fun z=>nomatch z) h
 | @lst a xs ea=>
  cases (show u=Value.ref a from rx)
  obtain⟨_,_,n,_,h1⟩:=(show ObjOk X.prog X.w H s.heap a (.lst xs) from I.hok a _ ea)
  exact PySem.W.kia_one PySem.W.kitx_list I.kIn ⟨_,h1,rfl⟩ e (fun z=>nomatch z) h
 | @frz a ob xs ea=>
  cases (show u=Value.ref a from rx)
  obtain⟨_,_,_,n,_,h1⟩:=(show ObjOk X.prog X.w H s.heap a (.frz ob (.lst xs)) from I.hok a _ ea)
  exact PySem.W.kia_one PySem.W.kitx_list I.kIn ⟨_,h1,rfl⟩ e (fun z=>nomatch z) h
 | @tup a xs ea=>
  cases (show u=Value.ref a from rx)
  obtain⟨_,_,_,p⟩:=(show ObjOk X.prog X.w H s.heap a (.tup xs) from I.hok a _ ea)
  obtain⟨o,h1,h2,_⟩:=p
  exact PySem.W.kia_one PySem.W.kitx_tuple I.kIn ⟨o,h1,h2⟩ e (fun z=>nomatch z) h
 | @dK a kvs ea=>
  cases (show u=Value.ref a from rx)
  obtain⟨_,_,vs,_,p⟩:=(show ObjOk X.prog X.w H s.heap a (.dK kvs) from I.hok a _ ea)
  obtain⟨o,es,ep,h1,h2,_⟩:=p
  exact PySem.W.kia_one PySem.W.kitx_dict I.kIn ⟨o,h1,h2.1⟩ e (fun z=>nomatch z) h
 | @dT a kvs ea=>
  cases (show u=Value.ref a from rx)
  obtain⟨_,_,xs,_,o,es,ep,h1,h2,_⟩:=(show ObjOk X.prog X.w H s.heap a (.dT kvs) from I.hok a _ ea)
  exact PySem.W.kia_one PySem.W.kitx_dict I.kIn ⟨o,h1,h2.1⟩ e (fun z=>nomatch z) h
 | @ins a C dx fs ea cl ha hn htk hm=>
  cases (show u=Value.ref a from rx)
  obtain⟨mA,O,_⟩:=ins_get I.hok ea
  obtain⟨od,J,_⟩:=O.look
  exact PySem.W.kia_one (PySem.W.kitx_own (cl.get _) cl.hd ha hn htk hm) I.kIn J e (fun z=>nomatch z) h
end
structure Room (k:Nat) (A:Around):Prop where
 hd:A.handled=none
 gd:A.guards=some []
 dp:A.depth+3*k+5<recursionLimit
 un:A.units+16*k+200<cLine
theorem Room.mono {j k:Nat} {A:Around} (r:Room k A) (h:j≤k):Room j A:=⟨r.hd,r.gd,by have:=r.dp; omega,by have:=r.un; omega⟩
theorem Room.deeper {k:Nat} {A:Around} (r:Room (k+1) A) (env:Env):Room k (A.deeper env):=
 ⟨r.hd,r.gd,by have:=r.dp; show A.depth+1+3*k+5<_; omega,by have:=r.un; show A.units+3+16*k+200<_; omega⟩
theorem make_depth {A:Around} {C:Addr} {us:List Value} {kw:List (Str×Value)}:(A.under (.builtin "type.__call__" ⟨.ref C::us,kw⟩)).depth=A.depth+1:=by
 first | rfl | simp [Around.under,Code.weight,Code.isCreation,Code.isGuard,Code.isCaller,Code.frames,Code.isFrame,guardIds]
theorem make_units {A:Around} {C:Addr} {us:List Value} {kw:List (Str×Value)}:(A.under (.builtin "type.__call__" ⟨.ref C::us,kw⟩)).units=A.units+1:=by
 first | rfl | simp [Around.under,Code.cUnits,Code.frames,Code.isFrame]
theorem make_guards {A:Around} {C:Addr} {us:List Value} {kw:List (Str×Value)}:(A.under (.builtin "type.__call__" ⟨.ref C::us,kw⟩)).guards=A.guards:=by
  first
    | rfl
    | (show pushGuards (Code.guards _) A.guards=A.guards
       have e:Code.guards (.builtin "type.__call__" ⟨.ref C::us,kw⟩)=[]:=by first | rfl | (simp [Code.guards,Code.isGuard,guardIds])
       rw [e,pushGuards_eq]
       cases A.guards <;> simp)
theorem Room.make {k:Nat} {A:Around} (r:Room (k+1) A) (C:Addr) (us:List Value) (kw:List (Str×Value)):Room k (A.under (.builtin "type.__call__" ⟨.ref C::us,kw⟩)):=
 ⟨r.hd,by rw [make_guards]; exact r.gd,by have:=r.dp; rw [make_depth]; omega,by have:=r.un; rw [make_units]; omega⟩
theorem Room.depth {k:Nat} {A:Around} (r:Room k A):A.depth<recursionLimit:=by have:=r.dp; omega
theorem Room.units {k:Nat} {A:Around} (r:Room k A):A.units+64<cLine:=by have:=r.un; omega
def tNil:TA:=fun _ H Q=>Q [] H
def tCons (ta:TE) (tr:TA):TA:=fun σ H Q=>ta σ H fun x H1=>tr σ H1 fun xs H2=>Q (x::xs) H2
section
variable {X:Cx} {e:Expr} {es:List Expr} {te:TE} {t:TA} {pos:Pos}
theorem pa_nil:PA X [] tNil:=fun _ _ _ _ H Q I h=>Calls.spliced_nil ⟨[],H,I,.nil,h⟩
theorem pa_cons (ha:PE X e te) (hr:PA X es t) (hs:starEach (e::es) X.env=(false,eval e X.env)::starEach es X.env:=by rfl):PA X (e::es) (tCons te t):=by
 intro pos pins s σ H Q I h
 rw [hs]
 show wpAny _ _ (spliced ((false,eval e X.env)::backTo pos (starEach es X.env))) _ _ s
 refine Calls.spliced_cons (thn (ha pins s σ H _ I h) fun u s1 ⟨x,H1,I1,r1,q1⟩=>?_)
 exact thn (hr pos pins s1 σ H1 _ I1 q1) fun us s2 ⟨xs,H2,I2,r2,q2⟩=>⟨x::xs,H2,I2,.cons r1 r2,q2⟩
def tTup (t:TA):TE:=fun σ H Q=>t σ H fun xs H1=>xs.length≤sizeLine∧∀ p,H1 p=none→Q (.ref p) (upd H1 p (.tup xs))
def tLst (t:TA):TE:=fun σ H Q=>t σ H fun xs H1=>xs.length≤sizeLine∧∀ p,H1 p=none→Q (.ref p) (upd H1 p (.lst xs))
theorem pe_tup {x1} (h:PA X es t):PE X (.Tuple es x1 pos) (tTup t):=by
 intro pins s σ H Q I hq
 refine wpAny_Tuple_spliced (thn (h pos pins s σ H _ I hq) fun us s1 ⟨xs,H1,I1,r,z,q⟩=>⟨by rw [← r.length]; exact z,?_⟩)
 have hf:H1 s1.heap.objs.size=none:=I1.hok.fresh (Nat.le_refl _)
 refine⟨.ref s1.heap.objs.size,upd H1 s1.heap.objs.size (.tup xs),I1.laid (t':=s1.toks) (fun b u e=>Heap.get?_push_of_some _ e) (Nat.le_refl _) ?_,rfl,q _ hf⟩
 exact⟨z,us,r,⟨_,Heap.get?_push_size _ rfl,rfl,_,rfl⟩⟩
theorem pe_lst (h:PA X es t):PE X (.List es pos) (tLst t):=by
 intro pins s σ H Q I hq
 refine wpAny_List_spliced (thn (h pos pins s σ H _ I hq) fun us s1 ⟨xs,H1,I1,r,z,q⟩=>⟨by rw [← r.length]; exact z,?_⟩)
 have hf:H1 s1.heap.objs.size=none:=I1.hok.fresh (Nat.le_refl _)
 refine⟨.ref s1.heap.objs.size,upd H1 s1.heap.objs.size (.lst xs),I1.laid (t':=s1.toks) (fun b u e=>Heap.get?_push_of_some _ e) (Nat.le_refl _) ?_,rfl,q _ hf⟩
 exact⟨z,us,0,r,Heap.get?_push_size _ rfl⟩
end
abbrev Sp:=List V→Hp→VK→XK→Prop
abbrev CXT:=List Env→Hp→Shared→XK→Value→Shared→Prop
structure Env0 (P:Program) (w:World) (K:PySem.W.Frag) (mg:Str→Option Value) (base:Heap) (A:Around) (outer:List Env) (s:Shared) (H:Hp):Prop where
 frames:A.frames=some outer
 mod:Mod K mg base
 bs:∀ b o,base.get? b=some o→s.heap.get? b=some o∧H b=none
 bsz:base.objs.size≤s.heap.objs.size
 funs:s.heap.FunFrames base outer
 frf:∀ b∈frs outer,H b=none
 hok:HOk P w H s.heap
 bare:AllBare s.gens
def CE (outer:List Env) (P:Program) (w:World) (H:Hp) (s:Shared) (Q:VK) (u:Value) (s':Shared):Prop:=
 ∃ v H',s'.os=s.os∧AllBare s'.gens∧Un (frs outer) [] H H' s.heap s'.heap∧HOk P w H' s'.heap∧RelV v u∧Q v H'
def CR (CX:CXT) (outer:List Env) (P:Program) (w:World) (H:Hp) (s:Shared) (Q:VK) (E:XK) (r:Result) (s':Shared):Prop:=
 match r with
 | .ok (.ret u)=>CE outer P w H s Q u s'
 | .ok _=>False
 | .error e=>CX outer H s E e s'
structure FnOk (P:Program) (w:World) (K:PySem.W.Frag) (mg:Str→Option Value) (base:Heap) (CX:CXT) (k:Nat) (f:Addr) (fd:FuncData) (ps:List Str) (sp:Sp):Prop where
 len:∀ vs H Q E,sp vs H Q E→vs.length=ps.length
 run:∀ (A:Around) (outer:List Env) (s:Shared) (H:Hp) (args:Args) (us:List Value) (vs:List V) (Q:VK) (E:XK),Room k A→Env0 P w K mg base A outer s H→BindsTo s fd args (ps.zip us)→Vals vs us→sp vs H Q E→
  codeAny (model P w) A (.call (.ref f) args) (CR CX outer P w H s Q E) s
theorem Env0.make {P:Program} {w:World} {K:PySem.W.Frag} {mg:Str→Option Value} {base:Heap} {A:Around} {outer:List Env} {s:Shared} {H:Hp} (e:Env0 P w K mg base A outer s H) (C:Addr) (us:List Value) (kw:List (Str×Value)) :
  Env0 P w K mg base (A.under (.builtin "type.__call__" ⟨.ref C::us,kw⟩)) outer s H:=⟨by first | exact e.frames | (simpa [Around.under,Code.envs,Code.isFrame,pushEnvs] using e.frames),e.mod,e.bs,e.bsz,e.funs,e.frf,e.hok,e.bare⟩
section
variable {X:Cx} {pins:List (Addr×Obj)} {σ:St} {H:Hp} {s s':Shared}
theorem Inv.env0 (I:Inv X pins σ H s):Env0 X.prog X.w X.K X.mg X.base X.A X.stack s H:=
 ⟨I.ok.frames,I.ok.mod,I.bs,Nat.le_trans I.ok.bsz I.sz,I.stack,I.stkFree,I.hok,I.bare⟩
theorem Inv.after {Q:VK} {u:Value} (I:Inv X pins σ H s) (h:CE X.stack X.prog X.w H s Q u s'):EP X pins σ Q u s':=by
 obtain⟨v,H',os,bare,un,hok,r,q⟩:=h
 obtain⟨hh,g,d,t,os'⟩:=s'
 obtain rfl:os'=s.os:=os
 exact⟨v,H',I.call (h':=hh) (g':=g) (d':=d) (t':=t) (ch:=[]) un hok bare (fun b z=>absurd z (by simp)),r,q⟩
end
def tCall (sp:Sp) (dvs:List V) (E:XK) (t:TA):TE:=fun σ H Q=>t σ H fun vs H1=>sp (vs++dvs) H1 Q E
def tMeth (C:Addr) (m:Str) (sp:Sp) (dvs:List V) (E:XK) (ta:TE) (t:TA):TE:=fun σ H Q=>ta σ H fun x H1=>∃ a dx fs,x=.ref a∧H1 a=some (.ins C dx fs)∧fs.lookup m=none∧
 t σ H1 fun vs H2=>sp (x::(vs++dvs)) H2 Q E
def tMake (C:Addr) (sp:Sp) (dvs:List V) (E:XK) (t:TA):TE:=fun σ H Q=>t σ H fun vs H1=>∀ x dx,H1 x=none→H1 dx=none→dx≠x→
 sp (.ref x::(vs++dvs)) (upd (upd H1 dx (.own x)) x (.ins C dx [])) (fun v H2=>v=.non∧Q (.ref x) H2) E
def Binds (K:PySem.W.Frag) (fd:FuncData) (ps:List Str) (ds:List Value):Prop:=
 ∀ (s:Shared) (us:List Value),K.In s.heap→(us++ds).length=ps.length→BindsTo s fd ⟨us,[]⟩ (ps.zip (us++ds))
theorem Binds.all {K:PySem.W.Frag} {fd:FuncData} {ps:List Str} (h:∀ us:List Value,us.length=ps.length→bindArgs fd ⟨us,[]⟩=pure (ps.zip us)):Binds K fd ps []:=fun s us _ hl=>by
 rw [List.append_nil] at hl ⊢
 exact .of_eq (h us hl)
def Passes (CX:CXT) (X:Cx) (E:XK):Prop:=∀ (pins:List (Addr×Obj)) (σ:St) (H:Hp) (s:Shared) (e:Value) (s':Shared),Inv X pins σ H s→CX X.stack H s E e s'→X.xe e s'
section
variable {X:Cx} {CX:CXT} {k:Nat} {f C:Addr} {fd:FuncData} {ps:List Str} {sp:Sp} {dvs:List V} {ds:List Value} {E:XK} {x m:Str} {p pos apos:Pos} {e o:Expr} {es:List Expr} {ta:TE} {t:TA}
theorem run_fn {pins:List (Addr×Obj)} {σ:St} {H:Hp} {s:Shared} {Q:VK} {us:List Value} {vs:List V} (F:FnOk X.prog X.w X.K X.mg X.base CX k f fd ps sp) (hr:Room k X.A) (hb:Binds X.K fd ps ds) (hd:Vals dvs ds) (hx:Passes CX X E)
  (I:Inv X pins σ H s) (r:Vals vs us) (h:sp (vs++dvs) H Q E):wpAny (model X.prog X.w) X.A (call (.ref f) us) (EP X pins σ Q) X.xe s:=by
 have r2:Vals (vs++dvs) (us++ds):=r.append hd
 have hl:(us++ds).length=ps.length:=by rw [← r2.length]; exact F.len _ _ _ _ h
 refine wpAny_call (codeAny_mono (F.run X.A X.stack s H ⟨us,[]⟩ (us++ds) (vs++dvs) Q E hr I.env0 (hb s us I.kIn hl) r2 h) fun r s' hq=>?_)
 cases r with
 | error e=>exact hx pins σ H s e s' I hq
 | ok fl=>
  cases fl with
  | ret u=>exact I.after hq
  | next=>exact False.elim hq
  | brk=>exact False.elim hq
  | cont=>exact False.elim hq
theorem pe_call (F:FnOk X.prog X.w X.K X.mg X.base CX k f fd ps sp) (hr:Room k X.A) (hg:Gl X x) (hm:X.mg x=some (.ref f)) (hk:PySem.W.keepIn X.K (.ref f)=true) (hb:Binds X.K fd ps ds) (hd:Vals dvs ds) (hx:Passes CX X E)
  (ha:PA X (e::es) t) (hdb:(x==("__debug__":Str))=false:=by decide) (he:starEach (e::es) X.env=(false,eval e X.env)::starEach es X.env:=by rfl) (hpl:(backTo pos (starEach es X.env)).any (·.1)=false:=by rfl) :
  PE X (.Call (.Name x p) (e::es) [] pos) (tCall sp dvs E t):=by
 intro pins s σ H Q I h
 refine wpAny_Call_Name_kw (ld_glob I hg hm ?_ hdb)
 refine PySem.W.callWith_K (h₀:=X.base) I.ok.mod.kin hk (thn (ha pos pins s σ H _ I h) fun us s1 ⟨vs,H1,I1,r,q⟩=>⟨I1.kIn,?_⟩) he hpl
 exact run_fn F hr hb hd hx I1 r q
theorem pe_meth0 {pl:Sem Bool} (he:PE X o ta) (c:Cls X.K C) (hm:Meth X.K C m f) (F:FnOk X.prog X.w X.K X.mg X.base CX k f fd ps sp) (hr:Room k X.A) (hb:Binds X.K fd ps ds) (hd:Vals dvs ds) (hx:Passes CX X E)
  (ht:eval (.Call (.Attribute o m apos) [] [] pos) X.env=(do
   let ov ← eval o X.env
   standAt apos.atName
   let (f,first) ← holding [ov] (getMethod ov m pl)
   callWith pos f first (backTo pos (starEach [] X.env)) (backToKw pos (keywordEach [] X.env))):=by rfl) :
  PE X (.Call (.Attribute o m apos) [] [] pos) (tMeth C m sp dvs E ta tNil):=by
 intro pins s σ H Q I h
 refine PySem.W.methodCall_KW (pl:=pl) (thn (he pins s σ H _ I h) fun u s1 ⟨x,H1,I1,rx,a,dx,fs,ex,ea,l,q⟩=>?_) ht
 subst ex
 obtain rfl:u=Value.ref a:=rx
 refine getmeth_ok I1 ea c hm l ?_
 exact PySem.W.callWith_K0 (first:=[.ref a]) I1.kIn hm.kp (run_fn (us:=[.ref a]) (vs:=[.ref a]) F hr hb hd hx I1 (.cons rfl .nil) q)
structure Mk (K:PySem.W.Frag) (C f:Addr):Prop where
 makes:PySem.W.makesIn K C=true
 init:PySem.W.findIn K (.ref C) "__init__"=some (some (.ref f))
 fn:PySem.W.isFn K (.ref f)=true
 kp:PySem.W.keepIn K (.ref C)=true
theorem run_make {pins:List (Addr×Obj)} {σ:St} {H:Hp} {s:Shared} {Q:VK} {us:List Value} {vs:List V} (M:Mk X.K C f) (F:FnOk X.prog X.w X.K X.mg X.base CX k f fd ps sp) (hr:Room (k+1) X.A) (hb:Binds X.K fd ps ds) (hd:Vals dvs ds)
  (hx:Passes CX X E) (I:Inv X pins σ H s) (r:Vals vs us)
  (h:∀ x dx,H x=none→H dx=none→dx≠x→sp (.ref x::(vs++dvs)) (upd (upd H dx (.own x)) x (.ins C dx [])) (fun v H2=>v=.non∧Q (.ref x) H2) E) :
  wpAny (model X.prog X.w) X.A (call (.ref C) us) (EP X pins σ Q) X.xe s:=by
 have hq:=h (s.heap.objs.size+1) s.heap.objs.size (I.hok.fresh (Nat.le_succ _)) (I.hok.fresh (Nat.le_refl _)) (Nat.ne_of_lt (Nat.lt_succ_self _))
 have I2:=Inv.made (C:=C) I
 have r2:Vals (V.ref (s.heap.objs.size+1)::(vs++dvs)) (Value.ref (s.heap.objs.size+1)::(us++ds)):=.cons rfl (r.append hd)
 have hl:(Value.ref (s.heap.objs.size+1)::us++ds).length=ps.length:=by
  have e:=r2.length
  rw [F.len _ _ _ _ hq] at e
  exact e.symm
 refine wpAny_call (make_map (f:=f) I.kIn M.makes M.init (beq_iff_eq.mp M.fn) (codeAny_mono (F.run _ X.stack _ _ ⟨Value.ref (s.heap.objs.size+1)::us,[]⟩ (Value.ref (s.heap.objs.size+1)::(us++ds)) _ _ E (hr.make C us [])
  (I2.env0.make C us []) (hb _ (Value.ref (s.heap.objs.size+1)::us) I2.kIn hl) r2 hq) fun r s' hq'=>?_))
 cases r with
 | error e=>exact hx pins σ _ _ e s' I2 hq'
 | ok fl=>
  cases fl with
  | ret u=>
   obtain⟨v,H',I3,rv,ev,q3⟩:=I2.after hq'
   subst ev
   exact⟨rv,⟨V.ref (s.heap.objs.size+1),H',I3,rfl,q3⟩⟩
  | next=>exact False.elim hq'
  | brk=>exact False.elim hq'
  | cont=>exact False.elim hq'
theorem pe_make (M:Mk X.K C f) (F:FnOk X.prog X.w X.K X.mg X.base CX k f fd ps sp) (hr:Room (k+1) X.A) (hg:Gl X x) (hm:X.mg x=some (.ref C)) (hb:Binds X.K fd ps ds) (hd:Vals dvs ds) (hx:Passes CX X E)
  (ha:PA X (e::es) t) (hdb:(x==("__debug__":Str))=false:=by decide) (he:starEach (e::es) X.env=(false,eval e X.env)::starEach es X.env:=by rfl) (hpl:(backTo pos (starEach es X.env)).any (·.1)=false:=by rfl) :
  PE X (.Call (.Name x p) (e::es) [] pos) (tMake C sp dvs E t):=by
 intro pins s σ H Q I h
 refine wpAny_Call_Name_kw (ld_glob I hg hm ?_ hdb)
 refine PySem.W.callWith_K (h₀:=X.base) I.ok.mod.kin M.kp (thn (ha pos pins s σ H _ I h) fun us s1 ⟨vs,H1,I1,r,q⟩=>⟨I1.kIn,?_⟩) he hpl
 exact run_make M F hr hb hd hx I1 r q
end
section
variable {X:Cx} {CX:CXT} {k:Nat} {f C:Addr} {fd:FuncData} {ps ks:List Str} {sp:Sp} {E:XK} {x m:Str} {p pos apos kpos:Pos} {e o:Expr} {es:List Expr} {kws:List Keyword} {te ta:TE} {t tk:TA} {nm:Option Str}
variable {g:List Value→List Value→List Value} {gV:List V→List V→List V}
end
structure FnScope (N P:List Str) (sc:Scope):Prop where
 kind:sc.kind=.function
 co:sc.isCoroutine=false
 gen:sc.isGenerator=false
 nd:N.Nodup
 pre:N.take P.length=P
 par:∀ x∈P,sc.names.lookup x=some .local∨sc.names.lookup x=some .cell
 nofree:∀ y∈sc.names,y.2≠.free
theorem bindL_out {kindOf:Str→Option NameKind} {x:Str}:∀ {binds:List (Str×Value)} {m:Str→Option Value},(∀ v,(x,v)∉binds)→bindL kindOf binds m x=m x
 | [],_,_=>rfl
 | (n,v)::r,m,h=>by
  unfold bindL
  rw [bindL_out fun w hw=>h w (List.mem_cons_of_mem _ hw)]
  split
  ·have : x≠n:=by rintro rfl; exact h v List.mem_cons_self
   simp [this]
  ·rfl
theorem bindC_out {kindOf:Str→Option NameKind} {x:Str}:∀ {binds:List (Str×Value)} {m:Str→Option Value},(∀ v,(x,v)∉binds)→bindC kindOf binds m x=m x
 | [],_,_=>rfl
 | (n,v)::r,m,h=>by
  unfold bindC
  rw [bindC_out fun w hw=>h w (List.mem_cons_of_mem _ hw)]
  split
  ·rfl
  ·have : x≠n:=by rintro rfl; exact h v List.mem_cons_self
   simp [this]
theorem bindL_get {kindOf:Str→Option NameKind} {x:Str} {v:Value}:∀ {P:List Str} {vs:List Value} {i:Nat} {m:Str→Option Value},P.Nodup→P[i]? = some x→vs[i]? = some v→kindOf x=some .local→
  bindL kindOf (P.zip vs) m x=some v
 | [],_,_,_,_,h,_,_=>by simp at h
 | _::_,[],_,_,_,_,h,_=>by simp at h
 | p::P,w::vs,0,m,nd,h1,h2,hk=>by
  simp at h1 h2; subst h1; subst h2
  show bindL kindOf ((p,w)::P.zip vs) m p=_
  unfold bindL
  rw [bindL_out fun v hv=>(List.nodup_cons.mp nd).1 (List.of_mem_zip hv).1,if_pos hk]
  simp
 | p::P,w::vs,i+1,m,nd,h1,h2,hk=>by
  show bindL kindOf ((p,w)::P.zip vs) m x=_
  unfold bindL
  exact bindL_get (i:=i) (List.nodup_cons.mp nd).2 (by simpa using h1) (by simpa using h2) hk
theorem bindC_get {kindOf:Str→Option NameKind} {x:Str} {v:Value}:∀ {P:List Str} {vs:List Value} {i:Nat} {m:Str→Option Value},P.Nodup→P[i]? = some x→vs[i]? = some v→kindOf x≠some .local→
  bindC kindOf (P.zip vs) m x=some v
 | [],_,_,_,_,h,_,_=>by simp at h
 | _::_,[],_,_,_,_,h,_=>by simp at h
 | p::P,w::vs,0,m,nd,h1,h2,hk=>by
  simp at h1 h2; subst h1; subst h2
  show bindC kindOf ((p,w)::P.zip vs) m p=_
  unfold bindC
  rw [bindC_out fun v hv=>(List.nodup_cons.mp nd).1 (List.of_mem_zip hv).1,if_neg hk]
  simp
 | p::P,w::vs,i+1,m,nd,h1,h2,hk=>by
  show bindC kindOf ((p,w)::P.zip vs) m x=_
  unfold bindC
  exact bindC_get (i:=i) (List.nodup_cons.mp nd).2 (by simpa using h1) (by simpa using h2) hk
def start (N:List Str) (vs:List V):St:=vs.map some++List.replicate (N.length-vs.length) none
def cxOf (CX:CXT) (P:Program) (w:World) (K:PySem.W.Frag) (mg:Str→Option Value) (base:Heap) (N:List Str) (qual:Str) (scope:Scope) (f:Addr) (cd:Value) (A:Around) (outer:List Env) (s:Shared) (H:Hp) (E:XK):Cx where
 prog:=P
 w:=w
 K:=K
 mg:=mg
 base:=base
 A:=A.deeper (envOfC qual scope s.heap.objs.size f cd)
 N:=N
 s₀:=s
 H₀:=H
 env:=envOfC qual scope s.heap.objs.size f cd
 outer:=outer
 stack:=envOfC qual scope s.heap.objs.size f cd::outer
 ex:=[]
 calm:=true
 fn:=fun _=>true
 pn:=[]
 xe:=fun e s'=>wpAny (model P w) (A.deeper (envOfC qual scope s.heap.objs.size f cd)) (leaving (envOfC qual scope s.heap.objs.size f cd) e) (fun _ s''=>CX outer H s E e s'') (fun e' s''=>CX outer H s E e' s'') s'
theorem cell_has {sc:Scope} {n:Nat} {x:Str} (h:sc.names.lookup x=some .cell):∃ c,(cellsFrom n sc.names []).lookup x=some c:=by
 have q:=PySem.W.cellsFrom_some sc.names n [] (.inl h)
 exact Option.isSome_iff_exists.mp q
theorem inv_start {CX:CXT} {P:Program} {w:World} {K:PySem.W.Frag} {mg:Str→Option Value} {base:Heap} {N ps:List Str} {qual:Str} {scope:Scope} {f:Addr} {cd:Value} {A:Around} {outer:List Env} {s s1:Shared} {H:Hp} {E:XK} {us:List Value} {vs:List V}
  (S:FnScope N ps scope) (hd:A.handled=none) (e0:Env0 P w K mg base A outer s H) (hl:vs.length=ps.length) (r:Vals vs us)
  (x:InCallC s s.heap.objs.size (bindL (envOfC qual scope s.heap.objs.size f cd).kindOf (ps.zip us) fun _=>none) (cellsFrom (s.heap.objs.size+1) scope.names []) (bindC (envOfC qual scope s.heap.objs.size f cd).kindOf (ps.zip us) fun _=>none) s1) :
  Inv (cxOf CX P w K mg base N qual scope f cd A outer s H E) [] (start N vs) H s1:=by
 have hpl:ps.length≤N.length:=by have:=congrArg List.length S.pre; rw [List.length_take] at this; omega
 obtain⟨h1,tk,rfl,hk⟩:=x.done
 have noA:∀ b:Addr,b∉(cxOf CX P w K mg base N qual scope f cd A outer s H E).ex:=fun b z=>absurd (show b∈([]:List Addr) from z) (by simp)
 refine⟨⟨e0.mod,S.kind,rfl,rfl,Nat.le_refl _,fun y z c h1 h2=>?_,fun y hy=>?_,fun y c _ h=>?_,fun _=>hd,Around.frames_deeper e0.frames,.inr ⟨rfl,rfl⟩,fun b z=>absurd z (noA b),e0.bs,e0.bsz,fun b _ _=>noA b,fun b z=>absurd z (noA b),e0.funs,e0.frf⟩,
  rfl,e0.bare,Un.kept hk,⟨_,x.toInCall.ns,fun i y v h1 h2 h3=>?_⟩,fun y c h=>⟨_,x.cell y c h⟩,e0.hok.fresh (Nat.le_refl _),fun y c h=>?_,fun p hp=>absurd (show p∈([]:List (Addr×Obj)) from hp) (by simp),e0.hok.kept hk,?_⟩
 ·exact name_of_addr x.apart (PySem.mem_of_lookup h1) (PySem.mem_of_lookup h2)
 ·have hy:scope.names.lookup y=some .cell∨scope.names.lookup y=some .free:=hy
  rcases hy with hy | hy
  ·exact cell_has hy
  ·exact absurd rfl (S.nofree _ (PySem.mem_of_lookup hy))
 ·exact Nat.le_of_lt (x.above y c (PySem.mem_of_lookup h))
 ·have hi:i<vs.length:=by
   unfold start at h2
   by_cases hi:i<vs.length
   ·exact hi
   ·rw [List.getElem?_append_right (by simpa using hi)] at h2
    rw [List.getElem?_replicate] at h2
    split at h2 <;> cases h2
  have ha:vs[i]? = some v:=by
   unfold start at h2
   rw [List.getElem?_append_left (by simpa using hi),List.getElem?_map] at h2
   cases e:vs[i]? with
   | none=>rw [e] at h2; cases h2
   | some a=>rw [e] at h2; cases h2; rfl
  obtain⟨u,hu,rv⟩:=r.get ha
  have hp:ps[i]? = some y:=by
   rw [← S.pre,List.getElem?_take_of_lt (by omega)]; exact h1
  have ndP:ps.Nodup:=by rw [← S.pre]; exact S.nd.sublist (List.take_sublist _ _)
  refine⟨u,rv,?_⟩
  rcases S.par y (List.mem_of_getElem? hp) with k | k
  ·exact .inl ⟨k,bindL_get ndP hp hu k⟩
  ·obtain⟨c,e⟩:=cell_has (n:=s.heap.objs.size+1) k
   refine .inr ⟨.inl k,c,e,?_⟩
   have q:=x.cell y c e
   rw [bindC_get ndP hp hu (by show scope.names.lookup y≠_; rw [k]; decide)] at q
   exact q
 ·exact e0.hok.fresh (Nat.le_of_lt (x.above y c (PySem.mem_of_lookup h)))
 ·unfold start
  show _=N.length
  rw [List.length_append,List.length_map,List.length_replicate]
  omega
theorem fn_of {CX:CXT} {P:Program} {w:World} {K:PySem.W.Frag} {mg:Str→Option Value} {base:Heap} {k:Nat} {f:Addr} {name qual:Str} {params:Arguments} {body:List Stmt} {scope:Scope} {dV kV doc pm cdv ct oc:Value} {an od:Option Addr}
  {osl:Array (Option Value)} {N ps:List Str} {sp:Sp} (lk:K.lookup f=some ⟨oc,od,.func (PySem.W.fnOf name qual params body scope dV kV doc pm an cdv ct),osl⟩) (hcd:PySem.W.codeIn K cdv qual=true) (S:FnScope N ps scope)
  (len:∀ vs H Q E,sp vs H Q E→vs.length=ps.length)
  (hbody:∀ (A:Around) (outer:List Env) (s:Shared) (H:Hp) (vs:List V) (Q:VK) (E:XK),Room k (A.deeper (envOfC qual scope s.heap.objs.size f cdv))→sp vs H Q E→
   ∃ t,PSs (cxOf CX P w K mg base N qual scope f cdv A outer s H E) body t∧t {nx:=fun _ H'=>Q .non H',rt:=Q} (start N vs) H) :
  FnOk P w K mg base CX (k+1) f (PySem.W.fnOf name qual params body scope dV kV doc pm an cdv ct) ps sp:=by
 refine⟨len,fun A outer s H args us vs Q E hr e0 hb r hsp=>?_⟩
 have hl:=len _ _ _ _ hsp
 have KX:K.In s.heap:=e0.mod.kin.keeps fun b o e=>(e0.bs b o e).1
 have lim:s.heap.NoLimit:=e0.mod.nolimit.keeps fun b o e=>(e0.bs b o e).1
 have hkind:∀ y∈ps.zip us,scope.names.lookup y.1=some .local∨(scope.names.lookup y.1=some .cell∧((cellsFrom (s.heap.objs.size+1) scope.names []).lookup y.1).isSome=true):=fun ⟨n,v⟩ hy=>by
  rcases S.par n (List.of_mem_zip hy).1 with q | q
  ·exact .inl q
  ·exact .inr ⟨q,PySem.W.cellsFrom_some _ _ _ (.inl q)⟩
 refine codeAny_call_function hr.depth (KX _ _ lk) rfl S.co S.gen rfl (PySem.W.codeRec_of KX hcd) (hb _ _ _ _ ?_)
 refine wpAny_newFunctionEnv_cells S.kind hkind fun env he s1 x=>?_
 subst he
 refine⟨lim.keeps x.toInCall.keep,codeAny_func ?_⟩
 obtain⟨t,ht,hq⟩:=hbody A outer s H vs Q E (hr.deeper _) hsp
 have I:Inv (cxOf CX P w K mg base N qual scope f cdv A outer s H E) [] (start N vs) H s1:=inv_start S hr.hd e0 hl r x
 refine wpAny_mono (ht [] s1 (start N vs) H _ I hq) (fun fl s' hs=>?_) fun e s' hs=>hs
 have fin:∀ {σ':St} {H':Hp} {v:V} {u:Value},Inv (cxOf CX P w K mg base N qual scope f cdv A outer s H E) [] σ' H' s'→RelV v u→Q v H'→CE outer P w H s Q u s':=
  fun {σ' H' v u} J rv q=>⟨v,H',J.os,J.bare,J.base,J.hok,rv,q⟩
 cases fl with
 | ret u=>
  obtain⟨v,σ',H',J,rv,q⟩:=hs
  exact fin J rv q
 | next=>
  obtain⟨σ',H',J,q⟩:=hs
  exact fin (v:=V.non) (u:=Value.none) J rfl q
 | brk=>
  obtain⟨_,_,_,q⟩:=hs
  exact False.elim q
 | cont=>
  obtain⟨_,_,_,q⟩:=hs
  exact False.elim q
section
variable {X:Cx} {x:Str} {p pos:Pos} {e:Expr} {es:List Expr} {t:TA} {id T:String} {r:List V→Hp→VK→Prop}
def tCB (r:List V→Hp→VK→Prop) (t:TA):TE:=fun σ H Q=>t σ H fun vs H1=>r vs H1 Q
theorem pe_callB (hc:CallR X (.builtin id) r) (hg:Gl X x) (hm:X.mg x=none) (hv:bootBuiltins x=some (.builtin id)) (ha:PA X (e::es) t) (hn:x≠"__name__":=by decide) (hdb:(x==("__debug__":Str))=false:=by decide)
  (he:starEach (e::es) X.env=(false,eval e X.env)::starEach es X.env:=by rfl) (hpl:(backTo pos (starEach es X.env)).any (·.1)=false:=by rfl):PE X (.Call (.Name x p) (e::es) [] pos) (tCB r t):=by
 intro pins s σ H Q I h
 refine wpAny_Call_Name_kw (ld_blt I hg hm hv ?_ hn hdb)
 exact PyProof.Rows.callWith_builtin1 (thn (ha pos pins s σ H _ I h) fun us s1 ⟨vs,H1,I1,r1,q1⟩=>hc pins s1 σ H1 vs us Q I1 r1 q1) he hpl
theorem pe_callTy (hc:CallR X (.type T) r) (hg:Gl X x) (hm:X.mg x=none) (hv:bootBuiltins x=some (.type T)) (ha:PA X (e::es) t) (hn:x≠"__name__":=by decide) (hdb:(x==("__debug__":Str))=false:=by decide)
  (he:starEach (e::es) X.env=(false,eval e X.env)::starEach es X.env:=by rfl) (hpl:(backTo pos (starEach es X.env)).any (·.1)=false:=by rfl):PE X (.Call (.Name x p) (e::es) [] pos) (tCB r t):=by
 intro pins s σ H Q I h
 refine wpAny_Call_Name_kw (ld_blt I hg hm hv ?_ hn hdb)
 exact PyProof.Rows.callWith_type1 (thn (ha pos pins s σ H _ I h) fun us s1 ⟨vs,H1,I1,r1,q1⟩=>hc pins s1 σ H1 vs us Q I1 r1 q1) he hpl
end
end L2
namespace HT
open PySem PyProof.Rows
section
open PySem.SeqAt
open PySem.AutoSeq1 (wpAny_loadPart')
open PySem.MeetsSeq PySem.MeetsSeq2 PySem.MeetsSeq3
end
section
variable {prog:Program} {w:World} {A:Around} {E:Value→Shared→Prop} {s:Shared}
theorem cat_tup {t b:Addr} {vs ws:List Value} {Q:Value→Shared→Prop} (ht:IsTup s.heap t vs.toArray) (hb:IsTup s.heap b ws.toArray) (hv:vs≠[])
  (h1:ws=[]→Q (.ref t) s) (h2:ws≠[]→Q (.ref s.heap.objs.size) {s with heap:=s.heap.push {cls:=.type "tuple",data:=.seq (vs++ws).toArray}})
  (hsz:vs.length+ws.length≤sizeLine):wpAny (model prog w) A (binaryOp .Add (.ref t) (.ref b)) Q E s:=by
 obtain⟨⟨cls,dd,data,sl⟩,ho,hc,n,hd⟩:=id ht
 obtain⟨⟨cls2,dd2,data2,sl2⟩,ho2,hc2,n2,hd2⟩:=id hb
 simp only at hc hd hc2 hd2
 subst hc hd hc2 hd2
 have e:vs.toArray++ws.toArray=(vs++ws).toArray:=by simp
 by_cases hw:ws=[]
 ·exact concat_meets ⟨_,ho,rfl⟩ ⟨_,ho2,rfl⟩ noFill_tuple_add seq_tuple_add PySem.F.slot_tuple_add PySem.F.entry_tuple_add (PySem.F.args_tuple_add_2 _ _)
   (tuple_addW1 t b vs.toArray ws.toArray n n2 dd dd2 sl sl2 (by simpa using hv) (by simp [hw])) ⟨ho,ho2,h1 hw⟩
 ·refine concat_meets ⟨_,ho,rfl⟩ ⟨_,ho2,rfl⟩ noFill_tuple_add seq_tuple_add PySem.F.slot_tuple_add PySem.F.entry_tuple_add (PySem.F.args_tuple_add_2 _ _)
   (tuple_addW2 t b vs.toArray ws.toArray n n2 dd dd2 sl sl2 (by simpa using hv) (by simpa using hw) (by rw [List.size_toArray,List.size_toArray]; exact hsz)) ⟨ho,ho2,?_⟩
  rw [e]
  exact h2 hw
def sIx (n d:Nat):Option Int→Nat
 | none=>d
 | some v=>if v<0 then (v+(n:Int)).toNat else min v.toNat n
end
end HT
namespace L2
open PySem PySem.Spec PyProof.Rows
abbrev TO:=St→Hp→(Option Int→Hp→Prop)→Prop
def PO (X:Cx) (e:Option Expr) (t:TO):Prop:=
 ∀ (pins:List (Addr×Obj)) (s:Shared) (σ:St) (H:Hp) (Q:Option Int→Hp→Prop),Inv X pins σ H s→t σ H Q→
  wpAny (model X.prog X.w) X.A (evalPart e X.env) (fun u s'=>∃ o H',Inv X pins σ H' s'∧IsPart u o∧Q o H') X.xe s
def tNoPart:TO:=fun _ H Q=>Q none H
def tPart (t:TE):TO:=fun σ H Q=>t σ H fun x H1=>∃ i,x=.int i∧Q (some i) H1
section
variable {X:Cx} {e:Expr} {te:TE} {lo hi:Option Expr} {tl th:TO} {pos p2:Pos}
theorem po_none:PO X none tNoPart:=by
 intro pins s σ H Q I h
 rw [evalPart_none]
 exact wpAny_pure ⟨none,H,I,.none,h⟩
theorem po_some (h:PE X e te):PO X (some e) (tPart te):=by
 intro pins s σ H Q I hw
 rw [evalPart_some]
 refine thn (h pins s σ H _ I hw) fun u s1 ⟨x,H1,I1,r1,q1⟩=>?_
 obtain⟨i,rfl,q⟩:=q1
 obtain⟨t,rfl⟩:=r1
 exact⟨some i,H1,I1,.int i t,q⟩
def SlR (X:Cx) (r:V→Option Int→Option Int→Hp→VK→Prop):Prop:=
 ∀ (pins:List (Addr×Obj)) (s:Shared) (σ:St) (H:Hp) (x:V) (v vl vu:Value) (lo hi:Option Int) (sl:Addr) (Q:VK),Inv X pins σ H s→RelV x v→s.heap.IsSliceOf sl vl vu .none→IsPart vl lo→IsPart vu hi→r x lo hi H Q→
  ∃ T id,typeLookup (.type T) "__getitem__"=pure (some (.builtin id))∧s.TypeIs v T∧wpAny (model X.prog X.w) X.A (getItem v (.ref sl)) (EP X pins σ Q) X.xe s
def tSl (r:V→Option Int→Option Int→Hp→VK→Prop) (te:TE) (tl th:TO):TE:=fun σ H Q=>te σ H fun x H1=>tl σ H1 fun l H2=>th σ H2 fun u H3=>r x l u H3 Q
theorem pe_slice {r:V→Option Int→Option Int→Hp→VK→Prop} (hr:SlR X r) (he:PE X e te) (hl:PO X lo tl) (hu:PO X hi th):PE X (.Subscript e (.Slice lo hi none p2) pos) (tSl r te tl th):=by
 intro pins s σ H Q I h
 refine Subscript_ (thn (he pins s σ H _ I h) fun v s1 ⟨x,H1,I1,r1,q1⟩=>?_)
 refine wpAny_Slice (thn (hl pins s1 σ H1 _ I1 q1) fun vl s2 ⟨l,H2,I2,pl,q2⟩=>thn (hu pins s2 σ H2 _ I2 q2) fun vu s3 ⟨u,H3,I3,pu,q3⟩=>?_)
 rw [evalPart_none]
 refine wpAny_pure ?_
 have I4:Inv X pins σ H3 {s3 with heap:=s3.heap.push {cls:=.type "slice",data:=.fields #[vl,vu,.none]}}:=I3.kept (t':=s3.toks) fun b ob q=>Heap.get?_push_of_some _ q
 obtain⟨T,id,hT,ht,hg⟩:=hr pins {s3 with heap:=s3.heap.push {cls:=.type "slice",data:=.fields #[vl,vu,.none]}} σ H3 x v vl vu l u s3.heap.objs.size Q I4 r1 (Heap.IsSliceOf.new ..) pl pu q3
 show wpAny (model X.prog X.w) X.A (subscriptTail e (.Slice lo hi none p2) v (.ref s3.heap.objs.size)) (EP X pins σ Q) X.xe {s3 with heap:=s3.heap.push {cls:=.type "slice",data:=.fields #[vl,vu,.none]}}
 exact tail_any (ops:=[.ref s3.heap.objs.size,v]) ht hT hg (by with_unfolding_all rfl)
def cutV (xs:List V) (lo hi:Option Int):List V:=(xs.drop (HT.sIx xs.length 0 lo)).take (HT.sIx xs.length xs.length hi-HT.sIx xs.length 0 lo)
theorem cutV_length (xs:List V) (lo hi:Option Int):(cutV xs lo hi).length≤xs.length:=by
 unfold cutV
 rw [List.length_take,List.length_drop]
 omega
def rCatT (K:PySem.W.Frag):R2:=fun x y H Q=>∃ a b xs ys,x=.ref a∧y=.ref b∧SqT K H a xs∧SqT K H b ys∧xs≠[]∧xs.length+ys.length≤sizeLine∧
 (ys=[]→Q (.ref a) H)∧(ys≠[]→∀ p,H p=none→Q (.ref p) (upd H p (.tup (xs++ys))))
theorem Vals.nil_iff {xs:List V} {us:List Value} (r:Vals xs us):us=[]↔xs=[]:=by
 cases r with
 | nil=>simp
 | cons _ _=>simp
theorem op_catT:OpR X (binaryOp .Add) (rCatT X.K):=by
 intro pins s σ H x y v u Q I rx ry h
 obtain⟨a,b,xs,ys,rfl,rfl,ha,hb,hx,hz,q1,q2⟩:=h
 cases rx
 cases ry
 obtain⟨its,r1,p1,_⟩:=I.tuple ha
 obtain⟨its2,r2,p2,_⟩:=I.tuple hb
 refine HT.cat_tup p1 p2 (fun z=>hx (r1.nil_iff.mp z)) (fun z=>⟨.ref a,H,I,rfl,q1 (r2.nil_iff.mp z)⟩) (fun z=>?_) (by rw [← r1.length,← r2.length]; exact hz)
 refine⟨.ref s.heap.objs.size,_,I.laid (t':=s.toks) (o:=.tup (xs++ys)) (fun b ob q=>Heap.get?_push_of_some _ q) (Nat.le_refl _) ?_,rfl,q2 (fun w=>z (r2.nil_iff.mpr w)) _ (I.hok.fresh (Nat.le_refl _))⟩
 exact⟨by rw [List.length_append]; exact hz,_,r1.append r2,IsTup.new _ _⟩
end
def ixN (n:Nat) (i:Int):Option Nat:=if 0≤i then (if i<n then some i.toNat else none) else if -(n:Int)≤i then some (i+n).toNat else none
def atI {α:Type} (xs:List α) (i:Int):Option α:=(ixN xs.length i).bind fun j=>xs[j]?
theorem ixN_seq {n:Nat} {i:Int} {j:Nat} (h:ixN n i=some j):seqIndex? i n=some j∧j<n∧-(n:Int)≤i∧i<n:=by
 unfold ixN at h
 by_cases h0:0≤i
 ·rw [if_pos h0] at h
  by_cases h1:i<n
  ·rw [if_pos h1] at h
   have e:i.toNat=j:=Option.some.inj h
   exact⟨by rw [seqIndex_of h0 h1,e],by omega,by omega,h1⟩
  ·rw [if_neg h1] at h; cases h
 ·rw [if_neg h0] at h
  by_cases h1:-(n:Int)≤i
  ·rw [if_pos h1] at h
   have e:(i+n).toNat=j:=Option.some.inj h
   exact⟨by rw [seqIndex_neg (by omega) h1,e],by omega,h1,by omega⟩
  ·rw [if_neg h1] at h; cases h
theorem atI_get {α:Type} {xs:List α} {i:Int} {v:α} (h:atI xs i=some v):∃ j,seqIndex? i xs.length=some j∧xs[j]? = some v∧j<xs.length∧-(xs.length:Int)≤i∧i<xs.length:=by
 unfold atI at h
 cases e:ixN xs.length i with
 | none=>rw [e] at h; cases h
 | some j=>
  rw [e] at h
  obtain⟨h1,h2,h3,h4⟩:=ixN_seq e
  exact⟨j,h1,h,h2,h3,h4⟩
theorem atI_nat {α:Type} {xs:List α} {j:Nat} {v:α} (h:xs[j]? = some v):atI xs (j:Int)=some v:=by
 have hj:j<xs.length:=(List.getElem?_eq_some_iff.mp h).1
 have e:ixN xs.length (j:Int)=some j:=by
  unfold ixN
  rw [if_pos (by omega),if_pos (by omega)]; simp
 unfold atI; rw [e]; exact h
def PlainIx (b:Expr):Prop:=∀ o i,subscripted b false o i=operate [o,i] (getItem o i)
def IxR (X:Cx) (r:R2):Prop:=
 ∀ (value slice:Expr) (pins:List (Addr×Obj)) (s:Shared) (σ:St) (H:Hp) (x y:V) (v u:Value) (Q:VK),Inv X pins σ H s→RelV x v→RelV y u→r x y H Q→
  subscripted slice false v u=operate [v,u] (getItem v u)→wpAny (model X.prog X.w) X.A (subscriptTail value slice v u) (EP X pins σ Q) X.xe s
def MtR (X:Cx) (id:String) (r:V→List V→Hp→VK→Prop):Prop:=
 ∀ (pins:List (Addr×Obj)) (s:Shared) (σ:St) (H:Hp) (x:V) (xs:List V) (v:Value) (us:List Value) (Q:VK),Inv X pins σ H s→RelV x v→Vals xs us→r x xs H Q→
  wpAny (model X.prog X.w) X.A (call (.builtin id) (v::us)) (EP X pins σ Q) X.xe s
section
variable {X:Cx} {a b:Expr} {ta tb:TE} {pos:Pos}
theorem pe_ix {r:R2} (hr:IxR X r) (ha:PE X a ta) (hb:PE X b tb) (hs:PlainIx b):PE X (.Subscript a b pos) (tOp r ta tb):=by
 intro pins s σ H Q I h
 exact Subscript_ (binT ha hb I h fun v u s2 x y H2 I2 rx ry q=>hr a b pins s2 σ H2 x y v u Q I2 rx ry q (hs _ _))
def rIxL (K:PySem.W.Frag):R2:=fun x y H Q=>∃ p xs i v,x=.ref p∧y=.int i∧SqL K H p xs∧atI xs i=some v∧Q v H
def rIxT (K:PySem.W.Frag):R2:=fun x y H Q=>∃ p xs i v,x=.ref p∧y=.int i∧SqT K H p xs∧atI xs i=some v∧Q v H
theorem ix_list:IxR X (rIxL X.K):=by
 intro value slice pins s σ H x y v u Q I rx ry h hs
 obtain⟨p,xs,i,z,rfl,rfl,hq,he,q⟩:=h
 cases rx
 obtain⟨t,rfl⟩:=ry
 obtain⟨its,r,pl,hz⟩:=I.list hq
 obtain⟨j,h1,h2,h3,h4,h5⟩:=atI_get he
 obtain⟨w,ew,rw'⟩:=r.get h2
 have hl:=r.length
 have hn:=line63
 have fin:EP X pins σ Q w s:=⟨z,H,I,rw',q⟩
 by_cases h0:0≤i
 ·have hj:i.toNat=j:=by
   rw [seqIndex_of h0 h5] at h1
   exact Option.some.inj h1
  exact item_listR pl.isList h0 (by omega) (by rw [hj]; simpa using ew) fin hs
 ·have hj:(i+(its.toArray.size:Int)).toNat=j:=by
   rw [seqIndex_neg (by omega) h4] at h1
   rw [List.size_toArray,← hl]
   exact Option.some.inj h1
  exact subscriptTail_builtinR (x:=w) pl.isList.typeIs slot_list_getitem.lookup
   (wpAny_getItem_list_neg (Q:=fun r s'=>r=w∧EP X pins σ Q r s') pl.isList (by omega) (by rw [List.size_toArray] <;> omega) (by omega) (by rw [hj]; simpa using ew) ⟨rfl,fin⟩) hs
theorem ix_tup:IxR X (rIxT X.K):=by
 intro value slice pins s σ H x y v u Q I rx ry h hs
 obtain⟨p,xs,i,z,rfl,rfl,hq,he,q⟩:=h
 cases rx
 obtain⟨t,rfl⟩:=ry
 obtain⟨its,r,pl,hz⟩:=I.tuple hq
 obtain⟨j,h1,h2,h3,h4,h5⟩:=atI_get he
 obtain⟨w,ew,rw'⟩:=r.get h2
 have hl:=r.length
 have hn:=line63
 have fin:EP X pins σ Q w s:=⟨z,H,I,rw',q⟩
 exact subscriptTail_builtinR (x:=w) pl.typeIs slot_tuple_getitem.lookup
  (getItem_tuple (j:=j) (Q:=fun r s'=>r=w∧EP X pins σ Q r s') pl (by omega) (by omega) (by rw [List.size_toArray,← hl]; exact h1) (by simpa using ew) ⟨rfl,fin⟩) hs
theorem mapSeq_set (its:List Value) (n j:Nat) (u:Value):Obj.mapSeq (·.setIfInBounds j u) {cls:=.type "list",data:=.seq its.toArray n}={cls:=.type "list",data:=.seq (its.set j u).toArray n}:=by
 simp [Obj.mapSeq]
theorem Inv.lst {pins:List (Addr×Obj)} {σ:St} {H:Hp} {s:Shared} {p:Addr} {xs:List V} (I:Inv X pins σ H s) (h:H p=some (.lst xs)) :
  ∃ (its:List Value) (n:Nat),Vals xs its∧s.heap.get? p=some {cls:=.type "list",data:=.seq its.toArray n}∧xs.length≤sizeLine:=by
 obtain⟨z,its,n,r,e⟩:=I.hok p _ h
 exact⟨its,n,r,e,z⟩
theorem Inv.lstUpd {pins:List (Addr×Obj)} {σ:St} {H:Hp} {s:Shared} {p:Addr} {xs ys:List V} {its its':List Value} {n n':Nat} {f:Obj→Obj} (I:Inv X pins σ H s) (h:H p=some (.lst xs))
  (ho:s.heap.get? p=some {cls:=.type "list",data:=.seq its.toArray n}) (hf:f {cls:=.type "list",data:=.seq its.toArray n}={cls:=.type "list",data:=.seq its'.toArray n'}) (r:Vals ys its') (hz:ys.length≤sizeLine) (t:Nat) :
  Inv X pins σ (upd H p (.lst ys)) {s with heap:=s.heap.update p f,toks:=t}:=by
 have e:(s.heap.update p f).get? p=some {cls:=.type "list",data:=.seq its'.toArray n'}:=by
  rw [Heap.get?_update_self f ho (by rw [hf] <;> rfl),hf]
 refine I.write (x:=p) (e:=p) (by rw [h]; trivial) (.inl rfl) (fun b u hb q=>(Heap.get?_update_other _ _ (Ne.symm hb)).trans q) ⟨_,e⟩ ?_
 exact⟨hz,its',n',r,e⟩
def rSetL:V→V→V→Hp→(Hp→Prop)→Prop:=fun o i v H Q=>∃ p xs k j,o=.ref p∧i=.int k∧H p=some (.lst xs)∧ixN xs.length k=some j∧Q (upd H p (.lst (xs.set j v)))
theorem set_list:PSet X rSetL:=by
 intro pins s σ H o i v ov iv u Q I ro ri rv h
 obtain⟨p,xs,k,j,rfl,rfl,hp,hj,q⟩:=h
 cases ro
 obtain⟨t,rfl⟩:=ri
 obtain⟨its,n,r,ho,hz⟩:=I.lst hp
 obtain⟨h1,h2,h3,h4⟩:=ixN_seq hj
 have hl:=r.length
 have hn:=line63
 have I':Inv X pins σ (upd H p (.lst (xs.set j v))) {s with heap:=s.heap.update p (Obj.mapSeq (·.setIfInBounds j u))}:=
  I.lstUpd hp ho (mapSeq_set its n j u) (r.set rv j) (by rw [List.length_set]; exact hz) s.toks
 by_cases h0:0≤k
 ·have hk:k.toNat=j:=by
   rw [seqIndex_of h0 h4] at h1
   exact Option.some.inj h1
  exact PySem.W.ki_setAt ho h0 (by omega) (by rw [List.size_toArray,← hl]; exact h4) (by rw [hk]; exact⟨_,I',q⟩)
 ·have hk:(k+(its.toArray.size:Int)).toNat=j:=by
   rw [seqIndex_neg (by omega) h3] at h1
   rw [List.size_toArray,← hl]
   exact Option.some.inj h1
  exact PySem.W.ki_setBack ho (by omega) (by rw [List.size_toArray,← hl]; exact h3) (by omega) (by rw [hk]; exact⟨_,I',q⟩)
theorem slice_bounds (lo hi:Option Int) (n:Nat):(sliceBounds lo hi none n).1=((HT.sIx n 0 lo:Nat):Int)∧(sliceBounds lo hi none n).2.1=((HT.sIx n n hi:Nat):Int)∧(sliceBounds lo hi none n).2.2=1:=by
 refine⟨?_,?_,rfl⟩
 ·cases lo with
  | none=>simp [sliceBounds,HT.sIx]
  | some i=>
   simp only [sliceBounds,HT.sIx,Option.getD_none,show (1:Int) > 0 by decide,if_true]
   by_cases h:i<0
   ·simp only [h,if_true] <;> omega
   ·simp only [h,if_false] <;> omega
 ·cases hi with
  | none=>simp [sliceBounds,HT.sIx]
  | some i=>
   simp only [sliceBounds,HT.sIx,Option.getD_none,show (1:Int) > 0 by decide,if_true]
   by_cases h:i<0
   ·simp only [h,if_true] <;> omega
   ·simp only [h,if_false] <;> omega
theorem slicePick_cut (its:List Value) (lo hi:Option Int):slicePick its.toArray lo hi none=((its.drop (HT.sIx its.length 0 lo)).take (HT.sIx its.length its.length hi-HT.sIx its.length 0 lo)).toArray:=by
 obtain⟨h1,h2,h3⟩:=slice_bounds lo hi its.toArray.size
 unfold slicePick
 rw [h1,h2,h3]
 simp only [sliceRange_one,pick_run,List.size_toArray] <;> rfl
def rSlL (K:PySem.W.Frag):V→Option Int→Option Int→Hp→VK→Prop:=fun x lo hi H Q=>∃ a xs,x=.ref a∧SqL K H a xs∧∀ p,H p=none→Q (.ref p) (upd H p (.lst (cutV xs lo hi)))
theorem sl_list:SlR X (rSlL X.K):=by
 intro pins s σ H x v vl vu lo hi sl Q I rx hs pl pu h
 obtain⟨a,xs,rfl,hx,q⟩:=h
 cases rx
 obtain⟨its,r,ht,hz⟩:=I.list hx
 have hlen:=r.length
 refine⟨"list",_,slot_list_getitem.lookup,ht.isList.typeIs,?_⟩
 refine wpAny_getItem_list_slice ht.isList hs pl pu .none (by simp) ?_ (by rw [List.size_toArray] <;> omega)
 rw [slicePick_cut,← hlen]
 refine⟨.ref s.heap.objs.size,_,I.laid (t':=s.toks) (o:=.lst (cutV xs lo hi)) (fun b ob q=>Heap.get?_push_of_some _ q) (Nat.le_refl _) ?_,rfl,q _ (I.hok.fresh (Nat.le_refl _))⟩
 exact⟨Nat.le_trans (cutV_length xs lo hi) hz,_,0,(r.drop (HT.sIx xs.length 0 lo)).take (HT.sIx xs.length xs.length hi-HT.sIx xs.length 0 lo),Heap.get?_push_size _ rfl⟩
def flatV:V→Bool
 | .non=>true
 | .bl _=>true
 | .int _=>true
 | .str _=>true
 | _=>false
def eqV:V→V→Bool
 | .non,.non=>true
 | .bl a,.bl b=>a==b
 | .bl a,.int b=>(if a then 1 else 0)==b
 | .int a,.bl b=>a==(if b then 1 else 0)
 | .int a,.int b=>a==b
 | .str a,.str b=>a==b
 | _,_=>false
theorem eqAt_V {A:Around} {s:Shared} {y x:V} {u v:Value} (ry:RelV y u) (rx:RelV x v) (fy:flatV y=true) (fx:flatV x=true):SeqAt.EqAt A s u v (eqV y x):=by
 cases y with
 | non=>
  cases ry
  cases x with
  | non=>cases rx; exact SeqAt.EqAt.same _
  | bl b=>cases rx; exact SeqAt.EqAt.none_bool b
  | int b=>obtain⟨t,rfl⟩:=rx; exact SeqAt.EqAt.none_int b t
  | str b=>obtain⟨t,rfl⟩:=rx; exact SeqAt.EqAt.none_str b t
  | _=>exact absurd (show false=true from fx) Bool.false_ne_true
 | bl a=>
  cases ry
  cases x with
  | non=>cases rx; exact SeqAt.EqAt.bool_none a
  | bl b=>cases rx; exact SeqAt.EqAt.bool_bool a b
  | int b=>obtain⟨t,rfl⟩:=rx; exact SeqAt.EqAt.bool_int a b t
  | str b=>obtain⟨t,rfl⟩:=rx; exact SeqAt.EqAt.bool_str a b t
  | _=>exact absurd (show false=true from fx) Bool.false_ne_true
 | int a=>
  obtain⟨t',rfl⟩:=ry
  cases x with
  | non=>cases rx; exact SeqAt.EqAt.int_none a t'
  | bl b=>cases rx; exact SeqAt.EqAt.int_bool a t' b
  | int b=>obtain⟨t,rfl⟩:=rx; exact SeqAt.EqAt.int_int a t' b t
  | str b=>obtain⟨t,rfl⟩:=rx; exact SeqAt.EqAt.int_str a t' b t
  | _=>exact absurd (show false=true from fx) Bool.false_ne_true
 | str a=>
  obtain⟨t',rfl⟩:=ry
  cases x with
  | non=>cases rx; exact SeqAt.EqAt.str_none a t'
  | bl b=>cases rx; exact SeqAt.EqAt.str_bool a t' b
  | int b=>obtain⟨t,rfl⟩:=rx; exact SeqAt.EqAt.str_int a t' b t
  | str b=>obtain⟨t,rfl⟩:=rx; exact SeqAt.EqAt.str_str a t' b t
  | _=>exact absurd (show false=true from fx) Bool.false_ne_true
 | _=>exact absurd (show false=true from fy) Bool.false_ne_true
def eqU (x:V) (u:Value):Bool:=match u with
 | .none=>eqV .non x
 | .bool b=>eqV (.bl b) x
 | .int i _=>eqV (.int i) x
 | .str z _=>eqV (.str z) x
 | _=>false
theorem eqU_of {x y:V} {u:Value} (r:RelV y u) (f:flatV y=true):eqU x u=eqV y x:=by
 cases y with
 | non=>cases r; rfl
 | bl b=>cases r; rfl
 | int i=>obtain⟨t,rfl⟩:=r; rfl
 | str z=>obtain⟨t,rfl⟩:=r; rfl
 | _=>exact absurd (show false=true from f) Bool.false_ne_true
theorem any_eqU {x:V}:∀ {xs:List V} {us:List Value},Vals xs us→xs.all flatV=true→us.any (eqU x)=xs.any fun y=>eqV y x
 | _,_,.nil,_=>rfl
 | y::xs,u::us,.cons r t,f=>by
  rw [List.all_cons,Bool.and_eq_true] at f
  rw [List.any_cons,List.any_cons,eqU_of r f.1,any_eqU t f.2]
theorem mem_eqAt {A:Around} {s:Shared} {x:V} {v:Value} (rx:RelV x v) (fx:flatV x=true):∀ {xs:List V} {us:List Value},Vals xs us→xs.all flatV=true→∀ u∈us,SeqAt.EqAt A s u v (eqU x u)
 | _,_,.nil,_=>fun u hu=>by cases hu
 | y::xs,u::us,.cons r t,f=>fun u' hu=>by
  rw [List.all_cons,Bool.and_eq_true] at f
  rcases List.mem_cons.mp hu with rfl | hu
  ·rw [eqU_of r f.1]; exact eqAt_V r rx f.1 fx
  ·exact mem_eqAt rx fx t f.2 u' hu
def inV (x:V) (xs:List V):Bool:=xs.any fun y=>eqV y x
def rIn (K:PySem.W.Frag) (neg:Bool):R2:=fun x y H Q=>∃ p xs,y=.ref p∧(SqL K H p xs∨SqT K H p xs)∧flatV x=true∧xs.all flatV=true∧Q (.bl (if neg then !inV x xs else inV x xs)) H
theorem op_in_seq:OpR X (compareOp .In) (rIn X.K false):=by
 intro pins s σ H x y v u Q I rx ry h
 obtain⟨p,xs,rfl,hq,fx,fs,q⟩:=h
 cases ry
 rcases hq with hq | hq
 ·obtain⟨its,r,pl,hz⟩:=I.list hq
  refine SeqAt.in_listAt (eqU x) pl.isList (fun w hw=>mem_eqAt rx fx r fs w (by simpa using hw)) ⟨.bl _,H,I,rfl,?_⟩
  rw [show its.toArray.any (eqU x)=its.any (eqU x) by simp,any_eqU r fs]
  exact q
 ·obtain⟨its,r,pl,hz⟩:=I.tuple hq
  refine SeqAt.in_tupleAt (eqU x) pl (fun w hw=>mem_eqAt rx fx r fs w (by simpa using hw)) ⟨.bl _,H,I,rfl,?_⟩
  rw [show its.toArray.any (eqU x)=its.any (eqU x) by simp,any_eqU r fs]
  exact q
theorem op_notIn_seq:OpR X (compareOp .NotIn) (rIn X.K true):=by
 intro pins s σ H x y v u Q I rx ry h
 obtain⟨p,xs,rfl,hq,fx,fs,q⟩:=h
 cases ry
 rcases hq with hq | hq
 ·obtain⟨its,r,pl,hz⟩:=I.list hq
  refine SeqAt.notIn_listAt (eqU x) pl.isList (fun w hw=>mem_eqAt rx fx r fs w (by simpa using hw)) ⟨.bl _,H,I,rfl,?_⟩
  rw [show its.toArray.any (eqU x)=its.any (eqU x) by simp,any_eqU r fs]
  exact q
 ·obtain⟨its,r,pl,hz⟩:=I.tuple hq
  refine SeqAt.notIn_tupleAt (eqU x) pl (fun w hw=>mem_eqAt rx fx r fs w (by simpa using hw)) ⟨.bl _,H,I,rfl,?_⟩
  rw [show its.toArray.any (eqU x)=its.any (eqU x) by simp,any_eqU r fs]
  exact q
theorem call_len_seq:CallR X (.builtin "len") (fun xs H Q=>∃ p ys,xs=[.ref p]∧(SqL X.K H p ys∨SqT X.K H p ys)∧Q (.int ys.length) H):=by
 intro pins s σ H xs us Q I r h
 obtain⟨p,ys,rfl,hq,q⟩:=h
 obtain⟨u,rfl,rx⟩:=vals1 r
 cases rx
 have hn:=line63
 rcases hq with hq | hq
 ·obtain⟨its,r',pl,hz⟩:=I.list hq
  have hlen:=r'.length
  exact Calls.call_len_list pl.isList (by simp only [List.size_toArray] <;> omega) ⟨.int ys.length,H,I.tok _,⟨s.toks+1,by rw [List.size_toArray,hlen]⟩,q⟩
 ·obtain⟨its,r',pl,hz⟩:=I.tuple hq
  have hlen:=r'.length
  exact len_tuple pl (by simp only [List.size_toArray] <;> omega) ⟨.int ys.length,H,I.tok _,⟨s.toks+1,by rw [List.size_toArray,hlen]⟩,q⟩
theorem call_len_str:CallR X (.builtin "len") (fun xs H Q=>∃ z,xs=[.str z]∧z.length≤sizeLine∧Q (.int z.length) H):=by
 intro pins s σ H xs us Q I r h
 obtain⟨z,rfl,hz,q⟩:=h
 obtain⟨u,rfl,t,rfl⟩:=vals1 r
 have hn:=line63
 exact len_str (by omega) ⟨.int z.length,H,I.tok _,⟨_,rfl⟩,q⟩
theorem call_list_of:CallR X (.type "list") (fun xs H Q=>∃ p ys,xs=[.ref p]∧(SqL X.K H p ys∨SqT X.K H p ys)∧∀ l,H l=none→Q (.ref l) (upd H l (.lst ys))):=by
 intro pins s σ H xs us Q I r h
 obtain⟨p,ys,rfl,hq,q⟩:=h
 obtain⟨u,rfl,rx⟩:=vals1 r
 cases rx
 have fin:∀ (its:List Value),Vals ys its→ys.length≤sizeLine→∀ (h':Heap) (c':Nat),(∀ b o',s.heap.get? b=some o'→h'.get? b=some o')→
   h'.get? s.heap.objs.size=some {cls:=.type "list",dict:=none,data:=.seq its.toArray c',slots:=#[]}→EP X pins σ Q (.ref s.heap.objs.size) {s with heap:=h'}:=fun its r' hz h' c' kp e=>
  ⟨.ref s.heap.objs.size,_,I.laid (t':=s.toks) kp (Nat.le_refl _) (show ObjOk X.prog X.w _ h' _ (.lst ys) from ⟨hz,its,c',r',e⟩),rfl,q _ (I.hok.fresh (Nat.le_refl _))⟩
 rcases hq with hq | hq
 ·obtain⟨its,r',pl,hz⟩:=I.list hq
  have hlen:=r'.length
  obtain⟨o,ho,hc,n,hd⟩:=pl.isList
  exact call_list_seq p (.inl rfl) ho hc hd (fun h' c' kp e=>fin its r' hz h' c' kp e) (by simp only [List.size_toArray] <;> omega)
 ·obtain⟨its,r',pl,hz⟩:=I.tuple hq
  have hlen:=r'.length
  obtain⟨o,ho,hc,n,hd⟩:=pl
  exact call_list_seq p (.inr rfl) ho hc hd (fun h' c' kp e=>fin its r' hz h' c' kp e) (by simp only [List.size_toArray] <;> omega)
theorem call_tuple_of:CallR X (.type "tuple") (fun xs H Q=>∃ p ys,xs=[.ref p]∧((SqL X.K H p ys∧∀ l,H l=none→Q (.ref l) (upd H l (.tup ys)))∨(SqT X.K H p ys∧Q (.ref p) H))):=by
 intro pins s σ H xs us Q I r h
 obtain⟨p,ys,rfl,h⟩:=h
 obtain⟨u,rfl,rx⟩:=vals1 r
 cases rx
 rcases h with ⟨hq,q⟩ | ⟨hq,q⟩
 ·obtain⟨its,r',pl,hz⟩:=I.list hq
  have hlen:=r'.length
  refine call_tuple_list pl.isList (fun h' kp=>?_) (by simp only [List.size_toArray] <;> omega)
  have I1:Inv X pins σ H {s with heap:=h'}:=I.kept (t':=s.toks) kp
  have I2:Inv X pins σ (upd H h'.objs.size (.tup ys)) {s with heap:=h'.push {cls:=.type "tuple",data:=.seq its.toArray}}:=
   I1.laid (t':=s.toks) (fun b o e=>Heap.get?_push_of_some _ e) (Nat.le_refl _) (show ObjOk X.prog X.w _ _ _ (.tup ys) from ⟨hz,its,r',IsTup.new _ _⟩)
  exact⟨.ref h'.objs.size,_,I2,rfl,q _ (I1.hok.fresh (Nat.le_refl _))⟩
 ·obtain⟨its,r',pl,hz⟩:=I.tuple hq
  exact call_tuple_same pl ⟨.ref p,H,I,rfl,q⟩
def tyV (K:PySem.W.Frag) (T:String) (x:V) (H:Hp):Prop:=match x with
 | .str _=>T="str"
 | .int _=>T="int"
 | .ref p=>(T="list"∧∃ xs,SqL K H p xs)∨(T="tuple"∧∃ o,K.lookup p=some o∧o.cls=.type "tuple"∧o.dict=none)∨
   (T="dict"∧((∃ kvs,H p=some (.dK kvs))∨∃ kvs,H p=some (.dT kvs)))∨(T="set"∧∃ S n,H p=some (.set S n))
 | _=>False
theorem tyV_is {pins:List (Addr×Obj)} {σ:St} {H:Hp} {s:Shared} {T:String} {x:V} {v:Value} (I:Inv X pins σ H s) (r:RelV x v) (ty:tyV X.K T x H) :
  s.TypeIs v T∧∀ a,v=.ref a→∃ ob,s.heap.get? a=some ob∧ob.dict=none:=by
 cases x with
 | str z=>
  obtain⟨t,rfl⟩:=r
  cases (show T="str" from ty)
  exact⟨typeIs_str s z t,fun _ e=>nomatch e⟩
 | int i=>
  obtain⟨t,rfl⟩:=r
  cases (show T="int" from ty)
  exact⟨typeIs_int s i t,fun _ e=>nomatch e⟩
 | ref p=>
  cases r
  rcases ty with ⟨rfl,xs,hq⟩ | ⟨rfl,o,hk,hc,hd⟩ | ⟨rfl,hk⟩ | ⟨rfl,S,n,hk⟩
  ·obtain⟨its,_,pl,_⟩:=I.list hq
   refine⟨pl.isList.typeIs,fun a e=>?_⟩
   cases e
   obtain⟨o,n,e,c,hd,_⟩:=pl
   exact⟨o,e,hd⟩
  ·refine⟨⟨o,I.kIn p o hk,hc⟩,fun a e=>?_⟩
   cases e
   exact⟨o,I.kIn _ o hk,hd⟩
  ·have z:∃ o,s.heap.get? p=some o∧o.ExactDict:=by
    rcases hk with ⟨kvs,hk⟩ | ⟨kvs,hk⟩
    ·obtain⟨_,_,_,_,o,_,_,e,ex,_⟩:=I.hok p _ hk
     exact⟨o,e,ex⟩
    ·obtain⟨_,_,_,_,o,_,_,e,ex,_⟩:=I.hok p _ hk
     exact⟨o,e,ex⟩
   obtain⟨o,e,ex⟩:=z
   refine⟨⟨o,e,ex.1⟩,fun a e2=>?_⟩
   cases e2
   exact⟨o,e,ex.2.1⟩
  ·obtain⟨o,_,_,_,e,ex,_⟩:=I.hok p _ hk
   refine⟨⟨o,e,ex.1⟩,fun a e2=>?_⟩
   cases e2
   exact⟨o,e,ex.2.1⟩
 | _=>exact False.elim ty
def tBM0 (K:PySem.W.Frag) (T:String) (r:V→List V→Hp→VK→Prop) (to:TE):TE:=fun σ H Q=>to σ H fun x H1=>tyV K T x H1∧r x [] H1 Q
def tBM (K:PySem.W.Frag) (T:String) (r:V→List V→Hp→VK→Prop) (to:TE) (t:TA):TE:=fun σ H Q=>to σ H fun x H1=>tyV K T x H1∧t σ H1 fun xs H2=>r x xs H2 Q
variable {o e:Expr} {es:List Expr} {to:TE} {t:TA} {name:Str} {apos cpos:Pos} {T id:String} {r:V→List V→Hp→VK→Prop}
theorem pe_bm0 (pa:PlainAttrs T) (slot:Slot T name id) (hty:typeOf (.builtin id)=pure (.type "method_descriptor")) (hm:MtR X id r) (ho:PE X o to)
  (hbase:attributeBase o name X.env (eval o X.env)=eval o X.env:=by rfl) (hline:(apos.endLine==cpos.line)=true:=by rfl):PE X (.Call (.Attribute o name apos) [] [] cpos) (tBM0 X.K T r to):=by
 intro pins s σ H Q I h
 refine wpAny_Call_method0_late hbase hline (thn (ho pins s σ H _ I h) fun v s1 ⟨x,H1,I1,r1,ty,q1⟩=>?_)
 obtain⟨h1,h2⟩:=tyV_is I1 r1 ty
 exact⟨T,id,pa,slot,hty,h1,h2,Calls.callWith_builtin rfl (PySem.evalArgs_none (hm pins s1 σ H1 x [] v [] Q I1 r1 .nil q1))⟩
theorem pe_bm (pa:PlainAttrs T) (slot:Slot T name id) (hty:typeOf (.builtin id)=pure (.type "method_descriptor")) (hm:MtR X id r) (ho:PE X o to) (ha:PA X (e::es) t)
  (hbase:attributeBase o name X.env (eval o X.env)=eval o X.env:=by rfl)
  (hfew:((backTo cpos (starEach (e::es) X.env)).all (fun x=>!x.1)&&(backToKw cpos (keywordEach [] X.env)).all (fun x=>x.1.isSome)
   && decide ((e::es).length+([]:List Keyword).length+(if ([]:List Keyword).isEmpty then 0 else 1)<30))=true:=by rfl)
  (hline:(apos.endLine==cpos.line)=true:=by rfl) (hs:starEach (e::es) X.env=(false,eval e X.env)::starEach es X.env:=by rfl) (hplain:(backTo cpos (starEach es X.env)).any (·.1)=false:=by rfl) :
  PE X (.Call (.Attribute o name apos) (e::es) [] cpos) (tBM X.K T r to t):=by
 intro pins s σ H Q I h
 refine wpAny_Call_method_late hbase hfew hline rfl (thn (ho pins s σ H _ I h) fun v s1 ⟨x,H1,I1,r1,ty,q1⟩=>?_)
 obtain⟨h1,h2⟩:=tyV_is I1 r1 ty
 refine⟨T,id,pa,slot,hty,h1,h2,?_⟩
 have hA:=ha cpos pins s1 σ H1 _ I1 q1
 rw [hs] at hA ⊢
 refine Calls.callWith_builtin (by show (false||(backTo cpos (starEach es X.env)).any (·.1))=false; rw [hplain] <;> rfl) (Calls.evalArgs_plain ?_)
 exact thn hA fun us s2 ⟨vs,H2,I2,r2,q2⟩=>hm pins s2 σ H2 x vs v us Q I2 r1 r2 q2
end
def MtM (X:Cx) (id:String) (r:V→List V→Hp→VK→Prop):Prop:=
 ∀ (pins:List (Addr×Obj)) (s:Shared) (σ:St) (H:Hp) (x:V) (xs:List V) (v:Value) (us:List Value) (Q:VK),Inv X pins σ H s→RelV x v→Vals xs us→r x xs H Q→
  wpAny (model X.prog X.w) X.A (call (.builtin id) (v::us)) (EP X pins σ Q) X.xe s
theorem Vals.one:∀ {x:V} {us:List Value},Vals [x] us→∃ u,us=[u]∧RelV x u
 | _,_,.cons r .nil=>⟨_,rfl,r⟩
theorem Vals.zero:∀ {us:List Value},Vals [] us→us=[]
 | _,.nil=>rfl
theorem Vals.eraseIdx:∀ {xs:List V} {us:List Value} (i:Nat),Vals xs us→Vals (xs.eraseIdx i) (us.eraseIdx i)
 | _,_,_,.nil=>.nil
 | _,_,0,.cons _ t=>t
 | _,_,i+1,.cons r t=>.cons r (Vals.eraseIdx i t)
theorem len_erase {α:Type}:∀ (l:List α) (i:Nat),(l.eraseIdx i).length≤l.length
 | [],_=>Nat.le_refl _
 | _::_,0=>Nat.le_succ _
 | _::r,i+1=>Nat.succ_le_succ (len_erase r i)
section
variable {X:Cx} {pins:List (Addr×Obj)} {σ:St} {H:Hp} {s:Shared} {l b:Addr} {xs ys zs:List V}
theorem Inv.lset {its its':List Value} {n:Nat} {f:Array Value→Array Value} {t':Nat} (I:Inv X pins σ H s) (hH:H l=some (.lst xs))
  (e:s.heap.get? l=some {cls:=.type "list",data:=.seq its.toArray n}) (hf:f its.toArray=its'.toArray) (hv:Vals ys its') (hz:ys.length≤sizeLine) :
  Inv X pins σ (upd H l (.lst ys)) {s with heap:=s.heap.update l (Obj.mapSeq f),toks:=t'}:=by
 have q:=PySem.IsL.update e f
 rw [hf] at q
 refine I.write (x:=l) (e:=l) (by rw [hH]; exact trivial) (.inl rfl) (fun b' u hb hu=>(Heap.get?_update_other s.heap (Obj.mapSeq f) (Ne.symm hb)).trans hu) ⟨_,q⟩ ?_
 exact⟨hz,its',_,hv,q⟩
theorem Inv.lnew {its:List Value} {t':Nat} (I:Inv X pins σ H s) (hv:Vals ys its) (hz:ys.length≤sizeLine) :
  Inv X pins σ (upd H s.heap.objs.size (.lst ys)) {s with heap:=s.heap.push {cls:=.type "list",data:=.seq its.toArray},toks:=t'}:=
 I.laid (fun _ _ q=>Heap.get?_push_of_some _ q) (Nat.le_refl _) ⟨hz,its,0,hv,Heap.get?_push_size _ rfl⟩
theorem Inv.fresh (I:Inv X pins σ H s):H s.heap.objs.size=none:=I.hok.fresh (Nat.le_refl _)
theorem Inv.lstM (I:Inv X pins σ H s) (hH:H l=some (.lst xs)):xs.length≤sizeLine∧∃ (its:List Value) (n:Nat),Vals xs its∧xs.length=its.length∧s.heap.get? l=some {cls:=.type "list",data:=.seq its.toArray n}:=by
 obtain⟨z,its,n,r,e⟩:=I.hok l _ hH
 exact⟨z,its,n,r,r.length,e⟩
theorem notLongL {n:Nat} (h:n≤sizeLine):Builtin.List.listTooLong n=false:=by
 unfold Builtin.List.listTooLong
 exact decide_eq_false (by omega)
end
section
variable {X:Cx}
def rAppend:V→List V→Hp→VK→Prop:=fun x vs H Q=>∃ l xs y,x=.ref l∧vs=[y]∧H l=some (.lst xs)∧xs.length<sizeLine∧Q .non (upd H l (.lst (xs++[y])))
theorem mt_append:MtM X "list.append" rAppend:=by
 intro pins s σ H x vs v us Q I rx rv h
 obtain⟨l,xs,y,rfl,rfl,hH,hz,q⟩:=h
 cases rx
 obtain⟨u,rfl,ru⟩:=rv.one
 obtain⟨z,its,n,r,hl,e⟩:=I.lstM hH
 refine call_meets F.slot_list_append ⟨_,e,rfl⟩ F.entry_list_append (F.args_list_append_2 _ _) (PySem.list_append l its.toArray n u (by rw [List.size_toArray]; omega)) ⟨e,?_⟩
 refine⟨.non,_,I.lset (its':=its++[u]) hH e (by simp) (r.append (.cons ru .nil)) ?_,rfl,q⟩
 rw [List.length_append,List.length_singleton]
 omega
def rExtend:V→List V→Hp→VK→Prop:=fun x vs H Q=>∃ l b xs zs,x=.ref l∧vs=[.ref b]∧H l=some (.lst xs)∧H b=some (.lst zs)∧xs.length+zs.length≤sizeLine∧Q .non (upd H l (.lst (xs++zs)))
theorem mt_extend:MtM X "list.extend" rExtend:=by
 intro pins s σ H x vs v us Q I rx rv h
 obtain⟨l,b,xs,zs,rfl,rfl,hH,hB,hz,q⟩:=h
 cases rx
 obtain⟨u,rfl,ru⟩:=rv.one
 cases ru
 obtain⟨z,its,n,r,hl,e⟩:=I.lstM hH
 obtain⟨z2,its2,n2,r2,hl2,e2⟩:=I.lstM hB
 have hsz:its.toArray.size+its2.toArray.size≤sizeLine:=by rw [List.size_toArray,List.size_toArray]; omega
 have hlong:¬ (!its.toArray.isEmpty&&Builtin.List.listTooLong (its.toArray.size+its2.toArray.size))=true:=by
  rw [notLongL hsz,Bool.and_false]
  exact Bool.false_ne_true
 refine call_meets F.slot_list_extend ⟨_,e,rfl⟩ F.entry_list_extend (F.args_list_extend_2 _ _)
  (AutoSeq1.list_extend_list_list_0 l its.toArray n b its2.toArray n2 hlong (by rw [List.size_toArray]; omega) (by omega)) ⟨e,e2,?_⟩
 refine⟨.non,_,I.lset (its':=its++its2) hH e (by simp) (r.append r2) ?_,rfl,q⟩
 rw [List.length_append]
 omega
def rPopAt:V→List V→Hp→VK→Prop:=fun x vs H Q=>∃ l xs i k y,x=.ref l∧vs=[.int i]∧H l=some (.lst xs)∧-(2 ^ 63)≤i∧i<2 ^ 63∧seqIndex? i xs.length=some k∧xs[k]? = some y∧Q y (upd H l (.lst (xs.eraseIdx k)))
theorem mt_popAt:MtM X "list.pop" rPopAt:=by
 intro pins s σ H x vs v us Q I rx rv h
 obtain⟨l,xs,i,k,y,rfl,rfl,hH,h1,h2,hk,hy,q⟩:=h
 cases rx
 obtain⟨u,rfl,ru⟩:=rv.one
 obtain⟨t,rfl⟩:=ru
 obtain⟨z,its,n,r,hl,e⟩:=I.lstM hH
 obtain⟨w,hw,rw'⟩:=r.get hy
 refine call_meets F.slot_list_pop ⟨_,e,rfl⟩ F.entry_list_pop (F.args_list_pop_2 _ _)
  (MeetsSeq.list_pop_at l its.toArray n i t k w (fitsIndex_both h1 h2) (by rw [List.size_toArray,← hl]; exact hk) (by rw [← Array.getElem?_toList]; exact hw) (by rw [List.size_toArray]; omega)) ⟨e,?_⟩
 refine⟨y,_,I.lset (its':=its.eraseIdx k) hH e ?_ (r.eraseIdx k) ?_,rw',q⟩
 ·show its.toArray.eraseIdxIfInBounds k=(its.eraseIdx k).toArray
  rw [List.eraseIdxIfInBounds_toArray]
 ·have:=len_erase xs k
  omega
def rClear:V→List V→Hp→VK→Prop:=fun x vs H Q=>∃ l xs,x=.ref l∧vs=[]∧H l=some (.lst xs)∧Q .non (upd H l (.lst []))
theorem mt_clear:MtM X "list.clear" rClear:=by
 intro pins s σ H x vs v us Q I rx rv h
 obtain⟨l,xs,rfl,rfl,hH,q⟩:=h
 cases rx
 have hus:=rv.zero
 subst hus
 obtain⟨z,its,n,r,hl,e⟩:=I.lstM hH
 refine call_meets F.slot_list_clear ⟨_,e,rfl⟩ F.entry_list_clear (F.args_list_clear_1 _) (AutoSeq1.list_clear_list_0 l its.toArray n (by rw [List.size_toArray]; omega)) ⟨e,?_⟩
 exact⟨.non,_,I.lset (its':=[]) (ys:=[]) hH e rfl .nil (Nat.zero_le _),rfl,q⟩
def rCat:R2:=fun x y H Q=>∃ l b xs zs,x=.ref l∧y=.ref b∧H l=some (.lst xs)∧H b=some (.lst zs)∧xs.length+zs.length≤sizeLine∧∀ p,H p=none→Q (.ref p) (upd H p (.lst (xs++zs)))
theorem op_cat:OpR X (binaryOp .Add) rCat:=by
 intro pins s σ H x y v u Q I rx ry h
 obtain⟨l,b,xs,zs,rfl,rfl,hH,hB,hz,q⟩:=h
 cases rx
 cases ry
 obtain⟨z,its,n,r,hl,e⟩:=I.lstM hH
 obtain⟨z2,its2,n2,r2,hl2,e2⟩:=I.lstM hB
 refine PySem.P.add_list e e2 ?_ (by rw [List.size_toArray,List.size_toArray]; omega)
 have ea:its.toArray++its2.toArray=(its++its2).toArray:=by simp
 rw [ea]
 exact⟨.ref _,_,I.lnew (t':=s.toks) (r.append r2) (by rw [List.length_append]; omega),rfl,q _ I.fresh⟩
end
section
variable {prog:Program} {w:World} {A:Around} {E:Value→Shared→Prop} {s:Shared}
end
section
variable {X:Cx}
end
end L2
namespace Att
open PySem PySem.W PySem.Calls PyProof.Rows
theorem ints_of_wellAll {P:Params} {h:Heap}:∀ (ns:List Int) (vs:List Value),WellAll P h vs (ns.map WData.int)→IntsAre vs ns:=by
 intro ns
 induction ns with
 | nil=>
  intro vs w
  rw [List.map_nil] at w
  cases w
  exact .nil
 | cons n ns ih=>
  intro vs w
  rw [List.map_cons] at w
  cases w with
  | cons a b=>
   cases a
   exact .cons _ _ (ih _ b)
theorem script_of {l:OpenLaw} {n:Nat} (hn:l.most=some n) {P:Params} {h:Heap} {args:List WData} {vals:List Value}
  (hpre:l.row.toRowW.claim.pre args=true) (hwl:WellAll P h vals args) :
  ∃ a vs ns,vals=[Value.ref a]∧args=[WData.list (ns.map WData.int)]∧h.get? a=some {cls:=.type "list",data:=.seq vs.toArray}∧IntsAre vs ns∧ns.length≤n:=by
 have hsh:WShape.hasAll [] args [.list .int]=true:=(pre_splitW hpre).1
 have hc:l.pre.holds [] {args:=args}=true:=(pre_splitW hpre).2
 obtain⟨d,r,rfl,h1,h2⟩:=hasAllW_cons hsh
 obtain rfl:=hasAllW_nil h2
 obtain⟨xs,rfl,h3⟩:=hasW_list h1
 obtain⟨ns,rfl⟩:=items_int h3
 have hlen:ns.length≤n:=by
  unfold OpenLaw.pre at hc
  have h4:(WTm.not (.lt (.lit (.int (n:Int))) (.len (.arg 0)))).holds [] {args:=[.list (ns.map .int)]}=true:=by
   have h4:=(holds_andW hc).1
   rw [hn] at h4
   exact h4
  have h5:=condW_of h4 (w_not (w_lt w_lit (w_len_list (w_arg rfl))))
  rw [List.length_map] at h5
  refine Nat.le_of_not_lt fun q=>?_
  have q':(n:Int)<((ns.length:Nat):Int):=by omega
  first
   | (rw [decide_eq_true q'] at h5; exact absurd h5 (by decide))
   | (simp at h5; omega)
 cases hwl with
 | cons w1 w2=>
  cases w2
  cases w1 with
  | list ho hall=>exact⟨_,_,ns,rfl,rfl,ho,ints_of_wellAll ns _ hall,hlen⟩
theorem post_true (l:OpenLaw) (args:List WData):l.row.toRowW.claim.post args (.bool true) args=true:=
 postW_of (r:=l.row.toRowW) (X:=(true==true))
  (show WShape.has [] (.bool true) .bool=true by first | rfl | decide | simp [WShape.has,WShape.arms,WShape.armsAll])
  (show (WTm.eq .res (.lit (.bool true))).value [] {args:=args,res:=some (.bool true),after:=args}=some (.bool (true==true)) from w_eq_bool (w_res rfl) w_lit) rfl
theorem attach_call {l:OpenLaw} {n:Nat} {q:Program} {loose:List Str} {XP:(Str→Option Value)→Heap→Prop} {YP:World→Heap→Prop} {d:DefRec}
  (hn:l.most=some n) (hdf:d.params.defaults=[])
  (call:∀ (w:World) (s₀ s₁:Shared) (mg mb:Str→Option Value) (fa:Addr) (o:Obj) (pm cd doc:Value) (a:Addr) (vs:List Value) (ns:List Int),
   Ground q loose [] XP w s₀ mg mb s₁.heap→YP w s₁.heap→
   s₁.heap.get? fa=some o→o.data=.func (docDef d.name d.params d.body d.scope pm cd doc)→s₁.heap.CodeRec cd d.name→mg d.name=some (.ref fa)→
   s₁.heap.get? a=some {cls:=.type "list",data:=.seq vs.toArray}→IntsAre vs ns→ns.length≤n→s₁.gens=#[]→
   codeAny (model l.prog w) callerA (.call (.ref fa) ⟨[.ref a],[]⟩) (fun r s'=>r=.ok (.ret (.bool true))∧OldK s₁.heap s'.heap∧s'.os=s₁.os∧AllBare s'.gens) s₁) :
  WalkO q loose XP YP l.row.toRowW d [] (fun f vs=>PySem.call f vs):=by
 intro w s₀ s₁ mg mb G Y fa o pm cd doc dV kV ho hd hcd hD hmg hg args vals as hpre hlay hrd hwl hlo
 obtain rfl:dV=.none:=Dflts.none hD hdf
 obtain rfl:kV=.none:=Dflts.noKw hD
 obtain⟨a,vs,ns,rfl,rfl,hobj,hints,hlen⟩:=script_of hn hpre hwl
 refine enter_call (codeAny_mono (call w s₀ s₁ mg mb fa o pm cd doc a vs ns G Y ho (fd_plain hd) hcd hmg hobj hints hlen hg) fun r s' hq=>?_)
 obtain⟨rfl,h2,h3,h4⟩:=hq
 exact⟨.inl ⟨.bool true,.bool true,[],rfl,fun _=>rfl,.bool true,post_true l _,fun _=>⟨List.Pairwise.nil,fun _ hm=>(nomatch hm)⟩⟩,h2,h3,h4⟩
section
variable {prog:Program} {w:World} {A:Around} {E:Value→Shared→Prop} {s:Shared} {K:Frag}
end
end Att
namespace L2
open PySem PySem.Spec PyProof.Rows
theorem vals_ints:∀ {vs:List Value} {ns:List Int},IntsAre vs ns→Vals (ns.map V.int) vs
 | _,_,.nil=>.nil
 | _,_,.cons n t h=>.cons ⟨t,rfl⟩ (vals_ints h)
def inClass (s:Stmt) (j:Nat):Stmt:=match s with
 | .ClassDef _ _ _ body _ _ _ _ _ _ _=>body.getD j (.Pass ⟨0,0,0,0⟩)
 | _=>.Pass ⟨0,0,0,0⟩
def defArgs (s:Stmt):Arguments:=match s with
 | .FunctionDef _ a _ _ _ _ _ _ _ _=>a
 | _=>{posonlyargs:=[],args:=[],vararg:=none,kwonlyargs:=[],kw_defaults:=[],kwarg:=none,defaults:=[]}
def defBody (s:Stmt):List Stmt:=match s with
 | .FunctionDef _ _ b _ _ _ _ _ _ _=>b
 | _=>[]
def defScope (s:Stmt):Scope:=match s with
 | .FunctionDef _ _ _ _ _ _ sc _ _ _=>sc
 | _=>{kind:=.function,names:=[],isGenerator:=false,isCoroutine:=false}
abbrev CX0:CXT:=fun _ _ _ _ _ _=>False
abbrev E0:XK:=fun _ _ _=>False
theorem pass0 {X:Cx}:Passes CX0 X E0:=fun _ _ _ _ _ _ _ h=>h.elim
structure Fun (K:PySem.W.Frag) (x qual:Str) (st:Stmt) (f:Addr) (fd:FuncData):Prop where
 ex:∃ (oc:Value) (od:Option Addr) (kV doc pm:Value) (an:Option Addr) (cdv ct:Value) (osl:Array (Option Value)),
  fd=PySem.W.fnOf x qual (defArgs st) (defBody st) (defScope st) .none kV doc pm an cdv ct∧K.lookup f=some ⟨oc,od,.func fd,osl⟩∧PySem.W.codeIn K cdv qual=true
 kp:PySem.W.keepIn K (.ref f)=true
section
variable {P:Program} {w:World} {K:PySem.W.Frag} {mg:Str→Option Value} {base:Heap}
theorem Fun.ok {x qual:Str} {st:Stmt} {f:Addr} {fd:FuncData} {N ps:List Str} {k:Nat} {sp:Sp} (F:Fun K x qual st f fd) (S:FnScope N ps (defScope st)) (len:∀ vs H Q E,sp vs H Q E→vs.length=ps.length)
  (hbody:∀ (cdv:Value) (A:Around) (outer:List Env) (s:Shared) (H:Hp) (vs:List V) (Q:VK) (E:XK),Room k (A.deeper (envOfC qual (defScope st) s.heap.objs.size f cdv))→sp vs H Q E→
   ∃ t,PSs (cxOf CX0 P w K mg base N qual (defScope st) f cdv A outer s H E).nox (defBody st) t∧t {nx:=fun _ H'=>Q .non H',rt:=Q} (start N vs) H):FnOk P w K mg base CX0 (k+1) f fd ps sp:=by
 obtain⟨oc,od,kV,doc,pm,an,cdv,ct,osl,rfl,lk,hcd⟩:=F.ex
 refine fn_of lk hcd S len fun A outer s H vs Q E hr hsp=>?_
 obtain⟨t,h,q⟩:=hbody cdv A outer s H vs Q E hr hsp
 exact⟨t,h.nox,q⟩
theorem Fun.binds {x qual:Str} {st:Stmt} {f:Addr} {fd:FuncData} {ps:List Str} (F:Fun K x qual st f fd)
  (h:∀ (kV doc pm:Value) (an:Option Addr) (cdv ct:Value) (us:List Value),us.length=ps.length→bindArgs (PySem.W.fnOf x qual (defArgs st) (defBody st) (defScope st) .none kV doc pm an cdv ct) ⟨us,[]⟩=pure (ps.zip us)):Binds K fd ps []:=by
 obtain⟨oc,od,kV,doc,pm,an,cdv,ct,osl,rfl,lk,hcd⟩:=F.ex
 exact .all (h kV doc pm an cdv ct)
theorem fun_mk {x qual:Str} {st:Stmt} {f:Addr} {oc:Value} {od an:Option Addr} {osl:Array (Option Value)} {kV doc pm cdv ct:Value} (l:K.lookup f=some ⟨oc,od,.func (PySem.W.fnOf x qual (defArgs st) (defBody st) (defScope st) .none kV doc pm an cdv ct),osl⟩)
  (c:PySem.W.codeIn K cdv qual=true) (k:PySem.W.keepIn K (.ref f)=true):Fun K x qual st f (PySem.W.fnOf x qual (defArgs st) (defBody st) (defScope st) .none kV doc pm an cdv ct):=⟨⟨oc,od,kV,doc,pm,an,cdv,ct,osl,rfl,l,c⟩,k⟩
end
section
variable {X:Cx}
end
theorem iteF {A B:Prop} (h:B):if false=true then A else B:=by
 rw [if_neg Bool.false_ne_true]
 exact h
theorem iteT {A B:Prop} (h:A):if true=true then A else B:=by
 rw [if_pos rfl]
 exact h
theorem ite2 {c A B:Prop} [Decidable c] (h1:c→A) (h2:¬ c→B):if c then A else B:=by
 by_cases h:c
 ·rw [if_pos h]
  exact h1 h
 ·rw [if_neg h]
  exact h2 h
def Same (H H':Hp):Prop:=∀ b o,H b=some o→H' b=some o
theorem Same.refl (H:Hp):Same H H:=fun _ _ h=>h
theorem Same.trans {H H1 H2:Hp} (a:Same H H1) (b:Same H1 H2):Same H H2:=fun c o h=>b c o (a c o h)
theorem Same.free {H H':Hp} (e:Same H H') {l:Addr} (h:H' l=Option.none):H l=Option.none:=by
 cases q:H l with
 | none=>rfl
 | some o=>
  rw [e l o q] at h
  cases h
end L2
set_option maxHeartbeats 4000000
namespace L2
open PySem PySem.Spec PyProof.Rows
theorem codeAny_compLoop_any {prog:Program} {w:World} {A:Around} {R:Result→Shared→Prop} {s:Shared} {elt target iter:Expr} {scope:Scope} {pos:Pos} {it acc:Value} {env:Env} (I:Nat→Shared→Prop)
  (turn:∀ n s,I n s→wpAny (model prog w) A (pyNext it) (fun r s1=>match r with
   | none=>R (.ok .next) s1
   | some v=>wpAny (model prog w) A (letOwnedTupleGo target it v) (fun _ s1'=>wpAny (model prog w) A (assign target env v) (fun _ s2=>
     wpAny (model prog w) A (eval elt env) (fun x s4=>
       wpAny (model prog w) A (call (.builtin "list.append") [acc,x]) (fun _ s5=>∃ m,m<n∧I m s5) (notedBy (model prog w) A env fun e s'=>R (.error e) s') s4) (notedBy (model prog w) A env fun e s'=>R (.error e) s') s2)
     (notedBy (model prog w) A env fun e s'=>R (.error e) s') s1') (notedBy (model prog w) A env fun e s'=>R (.error e) s') s1) (notedBy (model prog w) A env fun e s'=>R (.error e) s') s)
  (n:Nat) (h:I n s):codeAny (model prog w) A (.compLoop (.ListComp elt [⟨target,iter,[],0⟩] scope pos) 0 it acc env) R s:=by
 refine codeAny_loop rfl I (fun n s hI=>?_) n h
 show wpAny _ A ((compTurn (.ListComp elt [⟨target,iter,[],0⟩] scope pos) 0 it acc env).onRaise (fun x=>do noteFrame x env; theTreesLotGoes x)) _ _ s
 refine wpAny_noted ?_
 rw [compTurn_list]
 refine wpAny_bind (wpAny_standAt (wpAny_bind (wpAny_mono (turn n s hI) (fun r s1 h1=>?_) fun _ _ h'=>h')))
 cases r with
 | none=>exact wpAny_pure h1
 | some v=>
  refine wpAny_bind (wpAny_mono h1 (fun _ s1' h1'=>?_) fun _ _ h'=>h')
  refine wpAny_bind (wpAny_mono h1' (fun _ s2 h2=>wpAny_bind (wpAny_mono (wpAny_tests_nil (Q:=fun ok s3=>ok=true∧s3=s2) ⟨rfl,rfl⟩) (fun ok s3 h3=>?_) fun _ _ h'=>h')) fun _ _ h'=>h')
  obtain⟨rfl,rfl⟩:=h3
  exact wpAny_bind (wpAny_bind (wpAny_mono h2 (fun x s4 h4=>wpAny_bind (wpAny_mono h4 (fun _ s5 h5=>wpAny_pure (wpAny_pure ⟨rfl,h5⟩)) fun _ _ h'=>h')) fun _ _ h'=>h'))
theorem lookup_relabel {env:Env}:∀ {names:List (Str×NameKind)} {x:Str},
  (names.map fun (n,k)=>if (k==NameKind.free&&env.scope.kind==.function&&env.kindOf n==some .cell) then (n,NameKind.cell) else (n,k)).lookup x =
   (names.lookup x).map fun k=>if (k==NameKind.free&&env.scope.kind==.function&&env.kindOf x==some .cell) then NameKind.cell else k
 | [],_=>rfl
 | (n,k)::r,x=>by
  have ih:=@lookup_relabel env r x
  show List.lookup x ((if (k==NameKind.free&&env.scope.kind==.function&&env.kindOf n==some .cell)=true then (n,NameKind.cell) else (n,k))::_)=_
  cases hx:x==n with
  | true=>
   have e:x=n:=eq_of_beq hx
   subst e
   by_cases hc:(k==NameKind.free&&env.scope.kind==.function&&env.kindOf x==some .cell)=true
   ·rw [if_pos hc]; simp only [List.lookup_cons,hx,Option.map_some,hc,if_true]
   ·rw [if_neg hc]; simp only [List.lookup_cons,hx,Option.map_some,hc]; rfl
  | false=>
   by_cases hc:(k==NameKind.free&&env.scope.kind==.function&&env.kindOf n==some .cell)=true
   ·rw [if_pos hc]; simp only [List.lookup_cons,hx]; exact ih
   ·rw [if_neg hc]; simp only [List.lookup_cons,hx]; exact ih
def lookOk (n:Nat) (N' N:List Str) (names:List (Str×NameKind)):Bool:=
 (List.range N.length).all fun i=>match N'[n+i]? with
  | none=>true
  | some x=>(names.lookup x==some .free&&N[i]? == some x) || !(names.lookup x==some .local||names.lookup x==some .cell||names.lookup x==some .free)
structure CompScope (n:Nat) (N':List Str) (X:Cx) (scope:Scope):Prop where
 kind:scope.kind=.function
 names:∀ x∈scope.names,x.2=.local→scope.names.lookup x.1=some .local
 cell:∀ x∈scope.names,x.2≠.cell
 free:∀ x∈scope.names,x.2=.free→X.env.kindOf x.1=some .cell∨X.env.kindOf x.1=some .free
 nd:N'.Nodup
 len:N'.length=n+X.N.length
 look:lookOk n N' X.N scope.names=true
theorem closure_ok {scope:Scope} {env:Env} (hh:∀ x∈scope.names,x.2=.free→∃ c,env.cells.lookup x.1=some c) :
  ∃ cl,closureFor scope env=pure cl∧(∀ x c,cl.lookup x=some c→env.cells.lookup x=some c)∧∀ x∈scope.names,x.2=.free→∃ c,cl.lookup x.1=some c:=by
 have all:∀ (l:List (Str×NameKind)) (cs:List (Str×Addr)),(∀ x∈l,x.2=.free→∃ c,env.cells.lookup x.1=some c)→(∀ x c,cs.lookup x=some c→env.cells.lookup x=some c)→
   ∃ cl,(forIn l cs fun (x:Str×NameKind) r=>if x.2==NameKind.free then (do let a ← cellOf env x.1; pure (ForInStep.yield ((x.1,a)::r))) else pure (ForInStep.yield r):Sem (List (Str×Addr)))=pure cl∧
    (∀ x c,cl.lookup x=some c→env.cells.lookup x=some c)∧(∀ x∈l,x.2=.free→∃ c,cl.lookup x.1=some c)∧∀ x,(∃ c,cs.lookup x=some c)→∃ c,cl.lookup x=some c:=by
  intro l
  induction l with
  | nil=>intro cs _ h; exact⟨cs,rfl,h,(fun _ h=>nomatch h),fun _ h=>h⟩
  | cons y r ih=>
   intro cs hf h
   obtain⟨n,k⟩:=y
   by_cases hk:k=.free
   ·subst hk
    obtain⟨a,ha⟩:=hf (n,.free) List.mem_cons_self rfl
    have h':∀ x c,List.lookup x ((n,a)::cs)=some c→env.cells.lookup x=some c:=fun x c e=>by
     cases hx:x==n with
     | true=>
      simp only [List.lookup_cons,hx] at e
      have q:x=n:=eq_of_beq hx
      subst q
      rw [ha]; exact e
     | false=>
      simp only [List.lookup_cons,hx] at e
      exact h x c e
    obtain⟨cl,e1,e2,e3,e4⟩:=ih ((n,a)::cs) (fun x hx=>hf x (List.mem_cons_of_mem _ hx)) h'
    refine⟨cl,?_,e2,fun x hx hxf=>?_,fun x hx=>?_⟩
    ·rw [List.forIn_cons]
     have e5:cellOf env n=pure a:=by unfold cellOf; rw [ha]
     simp only [beq_self_eq_true,if_true,e5,pure_bind]
     exact e1
    ·rcases List.mem_cons.mp hx with rfl | hx
     ·exact e4 _ ⟨a,by simp [List.lookup_cons]⟩
     ·exact e3 x hx hxf
    ·obtain⟨c,hc⟩:=hx
     refine e4 x ?_
     cases hx:x==n with
     | true=>exact⟨a,by simp only [List.lookup_cons,hx]⟩
     | false=>exact⟨c,by simp only [List.lookup_cons,hx]; exact hc⟩
   ·obtain⟨cl,e1,e2,e3,e4⟩:=ih cs (fun x hx=>hf x (List.mem_cons_of_mem _ hx)) h
    refine⟨cl,?_,e2,fun x hx hxf=>?_,e4⟩
    ·rw [List.forIn_cons]
     have : (k==NameKind.free)=false:=by simpa using hk
     simp only [this,Bool.false_eq_true,if_false,pure_bind]
     exact e1
    ·rcases List.mem_cons.mp hx with rfl | hx
     ·exact absurd hxf hk
     ·exact e3 x hx hxf
 obtain⟨cl,e1,e2,e3,_⟩:=all scope.names [] hh (fun _ _ h=>nomatch h)
 refine⟨cl,?_,e2,e3⟩
 unfold closureFor
 refine Eq.trans (b:=(pure cl>>=fun cs=>pure cs)) ?_ rfl
 refine Eq.trans ?_ (congrArg (fun (m:Sem (List (Str×Addr)))=>m>>=fun cs=>pure cs) e1)
 rfl
def cxComp (X:Cx) (N':List Str) (scope:Scope) (cl:List (Str×Addr)) (C:Addr) (ex:List Addr) (s:Shared) (H:Hp):Cx:=
 {X with N:=N',s₀:=s,H₀:=H,env:=compEnvC scope cl C X.env,outer:=X.stack,ex:=ex,fn:=fun _=>false,pn:=[]}
section
variable {X:Cx} {n:Nat} {N':List Str} {scope:Scope} {elt tg iter:Expr} {pos:Pos} {pins:List (Addr×Obj)} {σ:St} {H2:Hp} {s2:Shared} {cl:List (Str×Addr)}
def CompBack (X:Cx) (pins:List (Addr×Obj)) (σ:St) (Q:VK) (acc:Value) (C:Addr) (s':Shared):Prop:=
 ∃ (D:Addr) (H':Hp) (m:Str→Option Value),acc=.ref D∧Inv X pins σ H' s'∧s'.heap.Ns C m∧FpOk X pins H' C∧Q (.ref D) H'
theorem comp_inv {C D:Addr} {fp:List Addr} {s':Shared} {us:List Value} {k:Nat} (S:CompScope n N' X scope) (c1:∀ x c,cl.lookup x=some c→X.env.cells.lookup x=some c) (c2:∀ x∈scope.names,x.2=.free→∃ c,cl.lookup x.1=some c)
  (I2:Inv X pins σ H2 s2) (f2:∀ b∈fp,FpOk X pins H2 b) (fl:∀ b∈fp,@LT.lt Nat _ b s2.heap.objs.size) (hD:@Eq Nat D s2.heap.objs.size) (hC:@Eq Nat C (s2.heap.objs.size+1))
  (ho:s'.os=s2.os) (hg:s'.gens=s2.gens) (old:∀ b o,s2.heap.get? b=some o→s'.heap.get? b=some o) (hns:∃ m,s'.heap.Ns C m) (hd:s'.heap.get? D=some {cls:=.type "list",data:=.seq us.toArray k}) :
  Inv (cxComp X N' scope cl C fp s2 H2) [(D,{cls:=.type "list",data:=.seq us.toArray k})] (List.replicate n none++σ) H2 s':=by
 have frl:∀ b∈frs X.stack,@LT.lt Nat _ b s2.heap.objs.size:=fun b hb=>by
  obtain⟨_,o,ho,_⟩:=I2.stack.mem hb
  exact Heap.lt_size ho
 have celll:∀ x c,cl.lookup x=some c→c<s2.heap.objs.size:=fun x c e=>by
  obtain⟨v,q⟩:=I2.cell x c (c1 x c e)
  exact q.lt
 have kOf:∀ x,(cxComp X N' scope cl C fp s2 H2).env.kindOf x=(scope.names.lookup x).map fun k=>if (k==NameKind.free&&X.env.scope.kind==.function&&X.env.kindOf x==some .cell) then NameKind.cell else k:=fun x=>lookup_relabel
 have kfree:∀ x,((cxComp X N' scope cl C fp s2 H2).env.kindOf x=some .cell∨(cxComp X N' scope cl C fp s2 H2).env.kindOf x=some .free)→scope.names.lookup x=some .free:=fun x hx=>by
  rw [kOf x] at hx
  cases e:scope.names.lookup x with
  | none=>rw [e] at hx; rcases hx with hx | hx <;> cases hx
  | some kd=>
   rw [e] at hx
   cases kd with
   | free=>rfl
   | «local»=>rcases hx with hx | hx <;> (simp at hx)
   | cell=>exact absurd rfl (S.cell _ (PySem.mem_of_lookup e))
   | globalExplicit=>rcases hx with hx | hx <;> (simp at hx)
   | globalImplicit=>rcases hx with hx | hx <;> (simp at hx)
 have hasC:∀ x,scope.names.lookup x=some .free→∃ c,cl.lookup x=some c:=fun x hx=>c2 _ (PySem.mem_of_lookup hx) rfl
 have hH:∀ a,s2.heap.objs.size≤a→H2 a=none:=fun a ha=>I2.hok.fresh ha
 have ok:(cxComp X N' scope cl C fp s2 H2).Ok:=by
  refine⟨I2.ok.mod,S.kind,I2.ok.glob,I2.ok.blt,?_,fun x y c h1 h2=>?_,fun x hx=>hasC x (kfree x hx),fun x c h=>absurd h (by show ¬ (false=true); decide),I2.ok.hd,I2.ok.frames,.inl rfl,fun b hb=>?_,I2.bs,Nat.le_trans I2.ok.bsz I2.sz,fun b o e hb=>?_,fun b hb z=>?_,I2.stack,I2.stkFree⟩
  ·show s2.heap.objs.size≤C
   omega
  ·exact I2.ok.inj x y c (c1 x c h1) (c1 y c h2)
  ·have:=fl b hb
   refine⟨by show @Ne Nat b C; omega,fun x c e z=>?_⟩
   exact(f2 b hb).2.2.2.2.1 x c (c1 x c e) z
  ·obtain⟨f0,f1,ff,f3,_⟩:=f2 b hb
   rcases f3 with z | z
   ·exact I2.ok.noex b o e z
   ·have q1:@LT.lt Nat _ b X.base.objs.size:=Heap.lt_size e
    have q2:=I2.ok.bsz
    have q3:@LE.le Nat _ X.s₀.heap.objs.size b:=z
    omega
  ·obtain⟨f0,f1,ff,_⟩:=f2 b hb
   exact(List.mem_cons.mp (I2.stkSub b z)).elim f1 ff
 refine⟨ok,ho,by rw [hg]; exact I2.bare,Un.kept old,?_,fun x c e=>?_,?_,fun x c e=>?_,fun p hp=>?_,I2.hok.kept old,?_⟩
 ·obtain⟨m,hn⟩:=hns
  refine⟨m,hn,fun i x v e1 e2 e3=>?_⟩
  have e2':(List.replicate n (none:Option V)++σ)[i]? = some (some v):=e2
  have e1':N'[i]? = some x:=e1
  by_cases hi:i<n
  ·rw [List.getElem?_append_left (by simpa using hi),List.getElem?_replicate] at e2'
   split at e2' <;> cases e2'
  ·obtain⟨j,rfl⟩:∃ j,i=n+j:=⟨i-n,by omega⟩
   rw [List.getElem?_append_right (by simp)] at e2'
   simp only [List.length_replicate,Nat.add_sub_cancel_left] at e2'
   have hj:j<X.N.length:=by rw [← I2.len]; exact(List.getElem?_eq_some_iff.mp e2').1
   have lk:=List.all_eq_true.mp S.look j (List.mem_range.mpr hj)
   rw [e1'] at lk
   have vis:scope.names.lookup x=some .local∨scope.names.lookup x=some .cell∨scope.names.lookup x=some .free:=by
    have e3':(cxComp X N' scope cl C fp s2 H2).env.kindOf x=some .local∨(cxComp X N' scope cl C fp s2 H2).env.kindOf x=some .cell∨(cxComp X N' scope cl C fp s2 H2).env.kindOf x=some .free:=e3
    rcases e3' with z | z | z
    ·rw [kOf x] at z
     cases e:scope.names.lookup x with
     | none=>rw [e] at z; cases z
     | some kd=>
      rw [e] at z
      simp only [Option.map_some] at z
      split at z
      ·cases z
      ·cases z; exact .inl rfl
    ·exact .inr (.inr (kfree x (.inl z)))
    ·exact .inr (.inr (kfree x (.inr z)))
   have lk2:scope.names.lookup x=some .free∧X.N[j]? = some x:=by
    simp only [Bool.or_eq_true,Bool.and_eq_true,Bool.not_eq_true',Bool.or_eq_false_iff,beq_iff_eq,beq_eq_false_iff_ne] at lk
    rcases lk with z | z
    ·exact z
    ·rcases vis with q | q | q
     ·exact absurd q z.1.1
     ·exact absurd q z.1.2
     ·exact absurd q z.2
   obtain⟨m0,hn0,hl0⟩:=I2.loc
   have vX:Vis X.env.scope x:=by
    rcases S.free _ (PySem.mem_of_lookup lk2.1) rfl with z | z
    ·exact .inr (.inl z)
    ·exact .inr (.inr z)
   obtain⟨u,r,l⟩:=hl0 j x v lk2.2 e2' vX
   refine⟨u,r,.inr ⟨?_,?_⟩⟩
   ·rw [kOf x,lk2.1]
    simp only [Option.map_some]
    split
    ·exact .inl rfl
    ·exact .inr rfl
   ·obtain⟨c,hc⟩:=hasC x lk2.1
    refine⟨c,hc,?_⟩
    rcases l with ⟨kl,_⟩ | ⟨_,c',hc',z⟩
    ·rcases S.free _ (PySem.mem_of_lookup lk2.1) rfl with q | q <;> (rw [kl] at q; cases q)
    ·have:=c1 x c hc
     rw [hc'] at this; cases this
     obtain⟨oc,hoc,hdc⟩:=z
     exact⟨oc,old _ _ hoc,hdc⟩
 ·obtain⟨v,oc,hoc,hdc⟩:=I2.cell x c (c1 x c e)
  exact⟨v,oc,old _ _ hoc,hdc⟩
 ·exact hH C (by omega)
 ·exact I2.freeC x c (c1 x c e)
 ·have e:p=(D,{cls:=.type "list",data:=.seq us.toArray k}):=by simpa [cxComp] using hp
  subst e
  refine⟨hd,hH D (by omega),by show @Ne Nat D C; omega,fun z=>?_,fun v z=>by cases z⟩
  have:=frl D z
  omega
 ·show (List.replicate n none++σ).length=N'.length
  rw [List.length_append,List.length_replicate,S.len,I2.len]
def CompOk (n:Nat) (J:It) (g:TG) (te:TE) (σ:St) (H:Hp) (Q:VK):Prop:=
 ∃ W:Nat→Nat→List V→St→Hp→Prop,(∃ m,W 0 m [] (List.replicate n none++σ) H)∧∀ i m ys σ' H,W i m ys σ' H→
  (J.stop i H∧∀ D,H D=none→Q (.ref D) (upd H D (.lst ys)))∨
  (J.go i H∧ys.length<sizeLine∧∀ x H',J.yld i H x H'→g x σ' H' fun σ2 H2=>∃ N:VK,te σ2 H2 N∧∀ v H3,N v H3→∃ m',m'<m∧W (i+1) m' (ys++[v]) σ2 H3)
abbrev InBlock (α:Type):=List (Str×Addr)→Addr→List Addr→Shared→Hp→α
def tComp (n:Nat) (wi:TI) (g:InBlock TG) (te:InBlock TE):TE:=fun σ H Q=>wi σ H fun J H1=>∀ cl C ex s Hc,CompOk n J (g cl C ex s Hc) (te cl C ex s Hc) σ H1 Q
theorem comp_block {it:Addr} {fp:List Addr} {tn:Nat→Heap→Prop} {J:It} {g:InBlock TG} {te:InBlock TE} {Q:VK} {E:Value→Shared→Prop}
  (hE:∀ v s,¬ X.xe v s) (hc:X.calm=true) (S:CompScope n N' X scope) (c1:∀ x c,cl.lookup x=some c→X.env.cells.lookup x=some c) (c2:∀ x∈scope.names,x.2=.free→∃ c,cl.lookup x.1=some c)
  (I2:Inv X pins σ H2 s2) (T:Turn X.prog X.w X.K tg J fp it tn) (st2:tn 0 s2.heap) (f2:∀ b∈fp,FpOk X pins H2 b)
  (hg:∀ cl C ex s H,PG (cxComp X N' scope cl C ex s H) tg (g cl C ex s H)) (he:∀ cl C ex s H,PE (cxComp X N' scope cl C ex s H) elt (te cl C ex s H))
  (cok:∀ cl C ex s Hc,CompOk n J (g cl C ex s Hc) (te cl C ex s Hc) σ H2 Q) :
  wpAny (model X.prog X.w) X.A (newList []) (fun acc s3=>wpAny (model X.prog X.w) X.A (newFunctionEnv scope X.env.globals cl [] X.env.qual none .none (some X.env)) (fun cenv s4=>
   codeAny (model X.prog X.w) X.A (.compStart (.ListComp elt [⟨tg,iter,[],0⟩] scope pos) 0 (.ref it) acc {cenv with scope:=relabel scope X.env})
    (fun r s'=>match r with | .ok _=>CompBack X pins σ Q acc cenv.locals s' | .error _=>False) s4) E s3) E s2:=by
 have fl:∀ b∈fp,@LT.lt Nat _ b s2.heap.objs.size:=fun b hb=>by
  obtain⟨o,e,_⟩:=T.obj _ _ st2 b hb
  exact Heap.lt_size e
 have frl:∀ b∈frs X.stack,@LT.lt Nat _ b s2.heap.objs.size:=fun b hb=>by
  obtain⟨_,o,ho,_⟩:=I2.stack.mem hb
  exact Heap.lt_size ho
 have celll:∀ x c,X.env.cells.lookup x=some c→@LT.lt Nat _ c s2.heap.objs.size:=fun x c e=>by
  obtain⟨v,q⟩:=I2.cell x c e
  exact q.lt
 refine wpAny_newObj_type (wpAny_newFunctionEnv S.cell (by intro y hy; simp at hy) (fun h1 hns1 hsb1=>?_) S.kind)
 dsimp only at hns1 hsb1 ⊢
 generalize hH2:s2.heap.push {cls:=.type "list",dict:=none,data:=.seq ([]:List Value).toArray}=G at hns1 hsb1 ⊢
 have hC:@Eq Nat G.objs.size (s2.heap.objs.size+1):=by rw [← hH2,Heap.size_push]
 have hDC:s2.heap.objs.size≠G.objs.size:=by show @Ne Nat _ _; omega
 have below:∀ b,@LT.lt Nat _ b s2.heap.objs.size→b≠G.objs.size∧b≠s2.heap.objs.size:=fun b hb=>⟨by show @Ne Nat _ _; omega,Nat.ne_of_lt hb⟩
 have old:∀ b o,s2.heap.get? b=some o→h1.get? b=some o:=fun b o e=>hsb1.extBut b o (below b (Heap.lt_size e)).1 (Heap.get?_push_of_some _ (hH2▸Heap.get?_push_of_some _ e))
 have hacc:h1.get? s2.heap.objs.size=some {cls:=.type "list",data:=.seq ([]:List Value).toArray 0}:=hsb1.extBut _ _ hDC (Heap.get?_push_of_some _ (hH2▸Heap.get?_push_size _ rfl))
 have hst1:tn 0 h1:=T.keep _ _ _ st2 fun b hb o e=>old b o e
 let X':=cxComp X N' scope cl G.objs.size fp s2 H2
 obtain⟨W,⟨m0,w0⟩,turn⟩:=cok cl G.objs.size fp s2 H2
 have hXe:X'.xe=X.xe:=rfl
 have stat:∀ {H':Hp} {ps:List (Addr×Obj)},(∀ b∈fp,H' b=none)→(∀ p∈ps,p.1=s2.heap.objs.size)→∀ b∈fp,FpOk X' ps H' b:=fun {H' ps} hn hp b hb=>by
  obtain⟨f0,f1,ff,f3,f4,f5⟩:=f2 b hb
  refine⟨hn b hb,(below b (fl b hb)).1,fun z=>?_,.inl hb,fun x c e z=>?_,fun p hp' z=>?_⟩
  ·exact(List.mem_cons.mp (I2.stkSub b z)).elim f1 ff
  ·exact f4 x c (c1 x c e) z
  ·have e:p.1=s2.heap.objs.size:=hp p (by simpa [X',cxComp] using hp')
   exact(below b (fl b hb)).2 (z.symm.trans e)
 have loop:∀ s3:Shared,s3={s2 with heap:=h1,toks:=s2.toks+([]:List (Str×Value)).length}→
   codeAny (model X.prog X.w) X.A (.compLoop (.ListComp elt [⟨tg,iter,[],0⟩] scope pos) 0 (.ref it) (.ref s2.heap.objs.size) (compEnvC scope cl G.objs.size X.env))
    (fun r s'=>match r with | .ok _=>CompBack X pins σ Q (.ref s2.heap.objs.size) G.objs.size s' | .error _=>False) s3:=by
  rintro s3 rfl
  have I3:=comp_inv (us:=[]) (k:=0) (s':={s2 with heap:=h1,toks:=s2.toks+([]:List (Str×Value)).length}) S c1 c2 I2 f2 fl rfl hC rfl rfl old ⟨_,hns1⟩ hacc
  refine codeAny_compLoop_any (fun m s'=>∃ i ys us k σ' H',Inv X' [(s2.heap.objs.size,{cls:=.type "list",data:=.seq (us:List Value).toArray k})] σ' H' s'∧Vals ys us∧tn i s'.heap∧(∀ b∈fp,H' b=none)∧ys.length≤sizeLine∧W i m ys σ' H') ?_ m0
   ⟨0,[],[],0,_,H2,I3,.nil,hst1,fun b hb=>(f2 b hb).1,Nat.zero_le _,w0⟩
  rintro m s' ⟨i,ys,us,k,σ',H',I',rv,st',fr',hlen,w'⟩
  rcases turn i m ys σ' H' w' with ⟨stop,q⟩ | ⟨go,hlt,step⟩
  ·refine thn (T.done X' rfl rfl rfl hc i _ s' σ' H' _ I' (stat fr' (by simp)) st' stop) fun r s4 ⟨hr,I4⟩=>?_
   subst hr
   show CompBack X pins σ Q (.ref s2.heap.objs.size) G.objs.size s4
   obtain⟨m1,hn1,_⟩:=I4.loc
   obtain⟨pD,nD,_,_,_⟩:=I4.pin (s2.heap.objs.size,{cls:=.type "list",data:=.seq us.toArray k}) (List.mem_append_right _ (by simp))
   have nD:H' s2.heap.objs.size=none:=nD
   have pD:s4.heap.get? s2.heap.objs.size=some {cls:=.type "list",data:=.seq us.toArray k}:=pD
   have hok:HOk X.prog X.w (upd H' s2.heap.objs.size (.lst ys)) s4.heap:=fun b u e=>by
    by_cases hb:b=s2.heap.objs.size
    ·subst hb
     rw [upd_same] at e; cases e
     exact⟨hlen,us,k,rv,pD⟩
    ·rw [upd_ne hb] at e
     exact(I4.hok b u e).stay (fun _ _ _ q=>q) (fun c q=>by rw [upd_ne (ne_of_none q nD)]; exact q) fun c xs q=>by rw [upd_ne (ne_of_none q nD)]; exact q
   have un:Un (frs X.stack) fp H2 (upd H' s2.heap.objs.size (.lst ys)) s2.heap s4.heap:=by
    have u0:=I4.base
    refine⟨u0.keep,u0.slot,fun b o e n hx=>?_,u0.there,fun b xs e=>?_,fun b o xs e=>?_,fun b ps e=>?_⟩
    ·rw [upd_ne (below b (Heap.lt_size e)).2]; exact u0.free b o e n hx
    ·have q:=u0.tups b xs e
     rw [upd_ne (ne_of_none q nD)]; exact q
    ·have q:=u0.frzs b o xs e
     rw [upd_ne (ne_of_none q nD)]; exact q
    ·obtain⟨more,q⟩:=u0.tbls b ps e
     exact⟨more,by rw [upd_ne (ne_of_none q nD)]; exact q⟩
   have IX:Inv X pins σ (upd H' s2.heap.objs.size (.lst ys)) s4:=I2.call' (ch:=fp) I4.os un hok I4.bare fun b hb=>by
    obtain⟨f0,f1,ff,f3,f4,f5⟩:=f2 b hb
    exact⟨f3,f1,f4,f5⟩
   have hG0:H' G.objs.size=none:=I4.free
   refine⟨s2.heap.objs.size,_,m1,rfl,IX,hn1,⟨by rw [upd_ne (Ne.symm hDC)]; exact hG0,fun z=>?_,fun z=>?_,.inr ?_,fun x c e z=>?_,fun p hp z=>?_⟩,q _ nD⟩
   ·have q1:@LT.lt Nat _ X.env.locals s2.heap.objs.size:=I2.lt
    have q2:@Eq Nat G.objs.size X.env.locals:=z
    omega
   ·have z':G.objs.size∈frs X.outer:=z
    obtain⟨_,o,ho,_⟩:=I2.funs.mem z'
    have q1:@LT.lt Nat _ G.objs.size s2.heap.objs.size:=Heap.lt_size ho
    omega
   ·have q1:=I2.sz
    show @LE.le Nat _ X.s₀.heap.objs.size G.objs.size
    omega
   ·have q1:=celll x c e
    have q2:@Eq Nat c G.objs.size:=z
    omega
   ·have q1:@LT.lt Nat _ p.1 s2.heap.objs.size:=Heap.lt_size (I2.pin p hp).1
    have q2:@Eq Nat p.1 G.objs.size:=z
    omega
  ·refine thn (T.item X' rfl rfl rfl hc i _ s' σ' H' _ I' (stat fr' (by simp)) st' go) fun r s4 ⟨u,hr,h4⟩=>?_
   subst hr
   show wpAny _ _ (letOwnedTupleGo tg (.ref it) u) _ _ s4
   refine thn h4 fun _ s5 ⟨x,H5,I5,r5,y5,st5,fr5⟩=>?_
   have I5':=I5.pinned (stat fr5 (by simp)) (T.obj _ _ st5)
   have w1:=hg cl G.objs.size fp s2 H2 _ s5 σ' H5 x u _ I5' r5 (step x H5 y5)
   refine wpAny_mono w1 (fun _ s6 ⟨σ6,H6,I6,q6⟩=>?_) fun v s hv=>absurd hv (hE v s)
   obtain⟨NN,q6,hNN⟩:=q6
   have w2:=he cl G.objs.size fp s2 H2 _ s6 σ6 H6 _ I6 q6
   refine wpAny_mono w2 (fun y s7 ⟨v,H7,I7,r7,q7⟩=>?_) fun v s hv=>absurd hv (hE v s)
   obtain⟨m',hm',w7⟩:=hNN v H7 q7
   have pinD:=I7.pin (s2.heap.objs.size,{cls:=.type "list",data:=.seq us.toArray k}) (List.mem_append_right _ (List.mem_append_left _ (by simp)))
   obtain⟨pD,nD,lD,fD,_⟩:=pinD
   refine append_at (hsz:=by rw [List.size_toArray,← rv.length]; exact hlen) pD fun h8 hs8 hD8=>?_
   have nD:H7 s2.heap.objs.size=none:=nD
   have I8:Inv X' (pinsAt fp s5.heap) σ6 H7 {s7 with heap:=h8}:=by
    refine(I7.pins_of (pins':=pinsAt fp s5.heap) fun p hp=>I7.pin p (List.mem_append_right _ (List.mem_append_right _ hp))).turned (t':=s7.toks) (it:=s2.heap.objs.size) (fun b o hb e=>(hs8.2 b hb).trans e) nD lD (.inr (Nat.le_refl _)) (fun x c e z=>?_) fun p hp z=>?_
    ·have q1:=celll x c (c1 x c e)
     have q2:@Eq Nat c s2.heap.objs.size:=z
     omega
    ·have hp':p∈pinsAt fp s5.heap:=by simpa [X',cxComp] using hp
     have q1:=fl p.1 (of_pinsAt hp').1
     have q2:@Eq Nat p.1 s2.heap.objs.size:=z
     omega
   have I9:Inv X' [(s2.heap.objs.size,{cls:=.type "list",data:=.seq (us++[y]).toArray (k+1)})] σ6 H7 {s7 with heap:=h8}:=I8.pins_of fun p hp=>by
    have e:p=(s2.heap.objs.size,{cls:=.type "list",data:=.seq (us++[y]).toArray (k+1)}):=by simpa using hp
    subst e
    refine⟨by rw [hD8,List.push_toArray],nD,lD,fD,fun v z=>by cases z⟩
   refine⟨m',hm',i+1,ys++[v],us++[y],k+1,σ6,H7,I9,rv.append (.cons r7 .nil),T.keep _ _ _ st5 fun b hb o e=>?_,fun b hb=>?_,by rw [List.length_append,List.length_singleton]; omega,w7⟩
   ·exact(I8.pin (b,o) (List.mem_append_right _ (mem_pinsAt hb e))).1
   ·obtain⟨o,e,d⟩:=T.obj _ _ st5 b hb
    exact(I8.pin (b,o) (List.mem_append_right _ (mem_pinsAt hb e))).2.1
 exact codeAny_compStart_list (loop _ rfl) (T.self _ 0 _ _ _ hst1 (loop _ rfl))
theorem pe_comp {wi:TI} {g:InBlock TG} {te:InBlock TE} (hE:∀ v s,¬ X.xe v s) (hc:X.calm=true) (S:CompScope n N' X scope) (hi:PI X tg iter wi)
  (hg:∀ cl C ex s H,PG (cxComp X N' scope cl C ex s H) tg (g cl C ex s H)) (he:∀ cl C ex s H,PE (cxComp X N' scope cl C ex s H) elt (te cl C ex s H))
  (hs:∀ x,foldedSetIterable iter X.env x=pure x:=by intro _; rfl):PE X (.ListComp elt [⟨tg,iter,[],0⟩] scope pos) (tComp n wi g te):=by
 intro pins s σ H Q I h
 rw [eval_ListComp]
 obtain⟨cl,hcl,c1,c2⟩:=closure_ok (scope:=scope) (env:=X.env) fun x hx hf=>I.ok.has x.1 (S.free x hx hf)
 refine wpAny_comprehension_free (use:=none) rfl hs hcl S.kind S.names (thn (hi pins s σ H _ I h) fun v s1 h1=>thn h1 fun itv s2 h2=>?_)
 obtain⟨it,fp,tn,J,H2,e,I2,T,st2,f2,cok⟩:=h2
 subst e
 refine wpAny_mono (comp_block (pos:=pos) (iter:=iter) (Q:=Q) (E:=X.xe) hE hc S c1 c2 I2 T st2 f2 hg he cok) (fun acc s3 h3=>wpAny_mono h3 (fun cenv s4 h4=>codeAny_mono h4 fun r s' hr=>?_) fun _ _ z=>z) fun _ _ z=>z
 cases r with
 | error e=>exact False.elim hr
 | ok f=>
  obtain⟨D,H',m,rfl,I',hn,⟨f0,f1,ff,f3,f4,f5⟩,q⟩:=hr
  refine⟨m,hn,fun h' hs'=>⟨.ref D,H',?_,rfl,q⟩⟩
  exact I'.turned (t':=s'.toks) (fun b o hb e=>(hs'.2 b hb).trans e) f0 f1 f3 f4 f5
theorem ps_setComp {wi:TI} {g:InBlock TG} {te:InBlock TE} {i:Nat} {x:Str} {pos' spos:Pos} (hN:X.N.Nodup) (hi0:X.N[i]? = some x) (hx:Loc X.env.scope x)
  (hsw:swapsWith (.ListComp elt [⟨tg,iter,[],0⟩] scope pos) (some (.Name x pos')) spos.line X.env=pure true)
  (hE:∀ v s,¬ X.xe v s) (hc:X.calm=true) (S:CompScope n N' X scope) (hi:PI X tg iter wi)
  (hg:∀ cl C ex s H,PG (cxComp X N' scope cl C ex s H) tg (g cl C ex s H)) (he:∀ cl C ex s H,PE (cxComp X N' scope cl C ex s H) elt (te cl C ex s H))
  (hs:∀ x,foldedSetIterable iter X.env x=pure x:=by intro _; rfl) (hf:X.fn x=true∨X.env.scope.names.lookup x=some .local:=by first | exact .inl rfl | exact .inr rfl | assumption) :
  PS X (.Assign [.Name x pos'] (.ListComp elt [⟨tg,iter,[],0⟩] scope pos) spos) (tAsg (tComp n wi g te) (gName i)):=by
 intro pins s σ H D I h
 rw [exec_Assign_Name_used _ _ _ _ hsw]
 refine wpAny_bind (wpAny_standAt (wpAny_bind ?_))
 obtain⟨cl,hcl,c1,c2⟩:=closure_ok (scope:=scope) (env:=X.env) fun x hx hf=>I.ok.has x.1 (S.free x hx hf)
 show wpAny _ _ (do let _ ← comprehension (.ListComp elt [⟨tg,iter,[],0⟩] scope pos) scope X.env _ (newList []) false (eval iter X.env) (some (assign (.Name x pos') X.env))) _ _ s
 refine wpAny_bind (wpAny_mono (wpAny_comprehension_free (use:=some (assign (.Name x pos') X.env)) (Q:=fun _ s'=>SP X pins D .next s') rfl hs hcl S.kind S.names
  (thn (hi pins s σ H _ I h) fun v s1 h1=>thn h1 fun itv s2 h2=>?_)) (fun _ s' hq=>wpAny_pure (wpAny_pure hq)) fun _ _ e=>e)
 obtain⟨it,fp,tn,J,H2,e,I2,T,st2,f2,cok⟩:=h2
 subst e
 refine wpAny_mono (comp_block (pos:=pos) (iter:=iter) (E:=X.xe) (Q:=fun x H1=>gName i x σ H1 D.nx) hE hc S c1 c2 I2 T st2 f2 hg he cok) (fun acc s3 h3=>wpAny_mono h3 (fun cenv s4 h4=>codeAny_mono h4 fun r s' hr=>?_) fun _ _ z=>z) fun _ _ z=>z
 cases r with
 | error e=>exact False.elim hr
 | ok f=>
  obtain⟨Dl,H',m,rfl,I',hn,⟨f0,f1,ff,f3,f4,f5⟩,q⟩:=hr
  show wpAny _ _ (assign (.Name x pos') X.env (.ref Dl)) _ _ s'
  refine wpAny_assign_Name (store_ok2 I' hN hi0 hx (v:=.ref Dl) (u:=.ref Dl) rfl (fun s'' I'' hb=>?_) hf)
  obtain⟨a,sb,ha⟩:=hb
  have hCa:cenv.locals≠a:=by
   rcases ha with rfl | ha
   ·exact f1
   ·exact fun z=>f4 x a ha z.symm
  refine⟨m,hn.sameBut sb hCa,fun h' hs'=>⟨_,H',?_,q⟩⟩
  exact I''.turned (t':=s''.toks) (fun b o hb e=>(hs'.2 b hb).trans e) f0 f1 f3 f4 f5
end
section
variable {X:Cx} {tg:Expr}
def Its (z:Str):It:=⟨fun i _=>i<z.cps.size,fun i H x H'=>H'=H∧∃ c,z.cps[i]? = some c∧x=.str ⟨#[c]⟩,fun i _=>z.cps.size≤i⟩
theorem turn_str {P:Program} {w:World} {K:PySem.W.Frag} {tg:Expr} {T:String} {t:Tok} (it:Addr) (z:Str)
  (hT:T="str_ascii_iterator"∨T="str_iterator") (W:∀ A:Around,A.handled=none→Walks P w A it [it] [it] z.cps.size (SignAt z) (fun i h=>h.IsStrIter it T z t i)) :
  Turn P w K tg (Its z) [it] it (fun i h=>h.IsStrIter it T z t i) where
 mem:=by simp
 obj:=fun i h st b hb=>by
  have e:b=it:=by simpa using hb
  subst e
  obtain⟨o,e,c,d⟩:=st
  exact⟨o,e,fun v z=>by rw [d] at z; cases z⟩
 keep:=fun i h h' st k=>by
  obtain⟨o,e,r⟩:=st
  exact⟨o,k it (by simp) o e,r⟩
 item:=by
  intro X hP hw hK hc i pins s σ H E I hf st hg
  subst hP hw hK
  obtain⟨f0,f1,f2,f3,f4,f5⟩:=hf it (by simp)
  refine(W _ (I.ok.hd hc)).item i s _ _ hg st fun v h' tk hv st' kk=>?_
  obtain⟨c,u,hcu,rfl⟩:=hv
  have I1:Inv X pins σ H {s with heap:=h',toks:=tk}:=I.turned (fun b o hb e=>kk b o (by simpa using hb) e) f0 f1 f3 f4 f5
  obtain⟨o,e,cc,d⟩:=id st'
  refine⟨_,rfl,go_of (s:={s with heap:=h',toks:=tk}) (n:=T) e cc d ?_ ⟨.str ⟨#[c]⟩,H,I1,⟨u,rfl⟩,⟨rfl,c,hcu,rfl⟩,st',fun b hb=>(hf b hb).1⟩⟩
  rcases hT with rfl | rfl <;> decide
 done:=by
  intro X hP hw hK hc i pins s σ H E I hf st hg
  subst hP hw hK
  obtain⟨f0,f1,f2,f3,f4,f5⟩:=hf it (by simp)
  have hg:z.cps.size≤i:=hg
  rcases hT with rfl | rfl
  ·exact wpAny_pyNext_ascii_end (I.ok.hd hc) st (by simp; omega) fun h' eb=>⟨rfl,I.turned (t':=s.toks) (fun b o hb e=>eb b o hb e) f0 f1 f3 f4 f5⟩
  ·exact wpAny_pyNext_wide_end (I.ok.hd hc) st (by simp; omega) fun h' eb=>⟨rfl,I.turned (t':=s.toks) (fun b o hb e=>eb b o hb e) f0 f1 f3 f4 f5⟩
 self:=fun A i s Q E st h=>by
  rcases hT with rfl | rfl
  ·exact wpAny_pyIter_striter_ascii st h
  ·exact wpAny_pyIter_striter_wide st h
def iStr (tl:TE):TI:=fun σ H R=>tl σ H fun x H1=>∃ z,x=.str z∧R (Its z) H1
theorem pi_str {l:Expr} {tl:TE} (hl:PE X l tl):PI X tg l (iStr tl):=by
 intro pins s σ H R I h
 refine thn (hl pins s σ H _ I h) fun v s1 ⟨x,H1,I1,r1,q1⟩=>?_
 obtain⟨z,e,q⟩:=q1
 subst e
 obtain⟨t,rfl⟩:=r1
 have fin:∀ (T:String) (o:Obj),(T="str_ascii_iterator"∨T="str_iterator")→(∀ A:Around,A.handled=none→Walks X.prog X.w A s1.heap.objs.size [s1.heap.objs.size] [s1.heap.objs.size] z.cps.size (SignAt z) (fun i h=>h.IsStrIter s1.heap.objs.size T z t i))→
   (s1.heap.push o).IsStrIter s1.heap.objs.size T z t 0→PIE X pins σ tg R (.ref s1.heap.objs.size) {s1 with heap:=s1.heap.push o}:=fun T o hT W st=>
  ⟨s1.heap.objs.size,[s1.heap.objs.size],_,_,H1,rfl,I1.kept (t':=s1.toks) fun b o e=>Heap.get?_push_of_some _ e,turn_str _ z hT W,st,fun b hb=>by
   have e:b=s1.heap.objs.size:=by simpa using hb
   subst e
   exact I1.fpOk (Nat.le_refl _) (I1.hok.fresh (Nat.le_refl _)),q⟩
 cases ha:z.cps.all (· < 128)
 ·exact wpAny_pyIter_wide ha (fin "str_iterator" _ (.inr rfl) (fun A hA=>Walks.strWide hA _ z t) ⟨_,Heap.get?_push_size _ rfl,rfl,rfl⟩)
 ·exact wpAny_pyIter_ascii ha (fin "str_ascii_iterator" _ (.inl rfl) (fun A hA=>Walks.strAscii hA _ z t) ⟨_,Heap.get?_push_size _ rfl,rfl,rfl⟩)
section forms
variable {J:It} {K:PySem.W.Frag} {a:Addr} {xs:List V} {te:TE} {σ:St} {H:Hp} {Q:VK}
theorem comp_it1 (n:Nat) (Pv:Nat→List V→Hp→Prop) (Vx:Nat→V→Prop) (h0:Pv 0 [] H) (hz:n≤sizeLine) (hgo:∀ i ys H,i<n→ys.length=i→Pv i ys H→J.go i H∧∀ x H',J.yld i H x H'→H'=H∧Vx i x)
  (hstop:∀ ys H,ys.length=n→Pv n ys H→J.stop n H)
  (hs:∀ i x ys H,i<n→Vx i x→ys.length=i→Pv i ys H→te (some x::σ) H fun v H3=>Pv (i+1) (ys++[v]) H3)
  (hd:∀ ys H,ys.length=n→Pv n ys H→∀ D,H D=none→Q (.ref D) (upd H D (.lst ys))):CompOk 1 J (gName 0) te σ H Q:=by
 refine⟨fun i m ys σ' H=>m=n-i∧i≤n∧ys.length=i∧(∃ o,σ'=o::σ)∧Pv i ys H,⟨n,by simp,Nat.zero_le _,rfl,⟨none,rfl⟩,h0⟩,?_⟩
 rintro i m ys σ' H ⟨rfl,hi,hy,⟨o,rfl⟩,p⟩
 by_cases hlt:i<n
 ·obtain⟨g1,g2⟩:=hgo i ys H hlt hy p
  refine .inr ⟨g1,by omega,fun x H' y=>?_⟩
  obtain⟨e,hx⟩:=g2 x H' y
  subst e
  exact⟨fun v H3=>Pv (i+1) (ys++[v]) H3,hs i x ys _ hlt hx hy p,fun v H3 h3=>⟨n - (i+1),by omega,rfl,hlt,by simp [hy],⟨_,rfl⟩,h3⟩⟩
 ·obtain rfl:i=n:=by omega
  exact .inl ⟨hstop ys H hy p,hd ys H hy p⟩
theorem go_list {i:Nat} (hq:SqL K H a xs) (hlt:i<xs.length):(Itl K a).go i H∧∀ x H',(Itl K a).yld i H x H'→H'=H∧xs[i]? = some x:=
 ⟨⟨xs,xs[i],hq,by simp [hlt]⟩,fun x H' ⟨e,y⟩=>⟨e,y xs hq⟩⟩
theorem stop_list (hq:SqL K H a xs):(Itl K a).stop xs.length H:=⟨xs,hq,Nat.le_refl _⟩
theorem go_tup {i:Nat} (hq:SqT K H a xs) (hlt:i<xs.length):(Itt K a).go i H∧∀ x H',(Itt K a).yld i H x H'→H'=H∧xs[i]? = some x:=
 ⟨⟨xs,xs[i],hq,by simp [hlt]⟩,fun x H' ⟨e,y⟩=>⟨e,y xs hq⟩⟩
theorem stop_tup (hq:SqT K H a xs):(Itt K a).stop xs.length H:=⟨xs,hq,Nat.le_refl _⟩
theorem go_rng {lo:Int} {n i:Nat} (hlt:i<n):(Itr lo n).go i H∧∀ x H',(Itr lo n).yld i H x H'→H'=H∧x=.int (lo+i):=⟨hlt,fun _ _ y=>y⟩
theorem stop_rng {lo:Int} {n:Nat}:(Itr lo n).stop n H:=Nat.le_refl n
theorem go_str {z:Str} {i:Nat} (hlt:i<z.cps.size):(Its z).go i H∧∀ x H',(Its z).yld i H x H'→H'=H∧∃ c,z.cps[i]? = some c∧x=.str ⟨#[c]⟩:=⟨hlt,fun _ _ y=>y⟩
theorem stop_str {z:Str}:(Its z).stop z.cps.size H:=Nat.le_refl z.cps.size
end forms
theorem call_allB (hc:X.calm=true):CallR X (.builtin "all") (fun xs H Q=>∃ (p:Addr) (bs:List Bool),xs=[.ref p]∧SqL X.K H p (bs.map V.bl)∧Q (.bl (bs.all id)) H):=by
 intro pins s σ H xs us Q I r h
 obtain⟨p,bs,rfl,hq,q⟩:=h
 obtain⟨u,rfl,rx⟩:=vals1 r
 cases rx
 obtain⟨its,r',pl,hz⟩:=I.list hq
 have hlen:=r'.length
 rw [List.length_map] at hlen
 have hit:∀ (i:Nat) (v:Value),its[i]? = some v→∃ b,bs[i]? = some b∧v=Value.bool b:=fun i v e=>by
  have hi:i<its.length:=(List.getElem?_eq_some_iff.mp e).1
  have hb:i<bs.length:=by omega
  obtain⟨u,hu,ru⟩:=r'.get (i:=i) (x:=V.bl bs[i]) (by simp [hb])
  rw [e] at hu; cases hu
  exact⟨bs[i],by simp [hb],ru⟩
 refine call_all_walk (wpAny_pyIter_list pl.isList ?_)
 have hp:p<s.heap.objs.size:=by obtain⟨o,n,e,_⟩:=pl; exact Heap.lt_size e
 refine⟨s.heap.objs.size,[s.heap.objs.size,p],[s.heap.objs.size],its.toArray.size,_,_,fun i=>bs.getD i false,rfl,Walks.list (by simpa using I.ok.hd hc) _ p (Nat.ne_of_lt hp) its.toArray,⟨⟨_,Heap.get?_push_size _ rfl,rfl,rfl⟩,pl.isList.push _⟩,fun i v s Q E hP hQ=>?_,fun h' tk kk=>?_⟩
 ·obtain⟨b,hb,rfl⟩:=hit i v (by simpa using hP)
  have e:bs.getD i false=b:=by simp [List.getD,hb]
  have hQ':Q (bs.getD i false) s:=hQ
  rw [e] at hQ'
  exact wpAny_truthy_bool hQ'
 ·have e:((List.range its.toArray.size).all fun i=>bs.getD i false)=bs.all id:=by
   rw [List.size_toArray,← hlen]
   rw [Bool.eq_iff_iff,List.all_eq_true,List.all_eq_true]
   constructor
   ·intro h b hb
    obtain⟨i,hi,rfl⟩:=List.mem_iff_getElem.mp hb
    have:=h i (List.mem_range.mpr hi)
    simpa [List.getD,hi] using this
   ·intro h i hi
    have hi':=List.mem_range.mp hi
    have:=h bs[i] (List.getElem_mem hi')
    simpa [List.getD,hi'] using this
  refine⟨.bl (bs.all id),H,?_,by rw [e]; rfl,q⟩
  exact I.kept fun b o eb=>kk b o (fun z=>Nat.ne_of_lt (Heap.lt_size eb) (by simpa using z)) (Heap.get?_push_of_some _ eb)
end
end L2
set_option maxHeartbeats 8000000
namespace L2
open PySem PySem.Spec PyProof.Rows
def stepS (σ:List Str) (v:Str):List Str:=if σ.any (· == v) then σ else σ++[v]
def metS (val:Nat→Str) (i:Nat):List Str:=((List.range i).map val).foldl stepS []
theorem metS_succ (val:Nat→Str) (i:Nat):metS val (i+1)=stepS (metS val i) (val i):=by
 unfold metS; rw [List.range_succ,List.map_append,List.foldl_append]; rfl
theorem metS_length_le (val:Nat→Str):∀ i,(metS val i).length≤i
 | 0=>Nat.le_refl _
 | i+1=>by
  rw [metS_succ]; unfold stepS
  have ih:=metS_length_le val i
  split
  ·omega
  ·rw [List.length_append,List.length_singleton]; omega
theorem stepS_any (σ:List Str) (v k:Str):(stepS σ v).any (· == k)=(σ.any (· == k)||decide (k=v)):=by
 unfold stepS
 by_cases h:σ.any (· == v)=true
 ·rw [if_pos h]
  by_cases e:k=v
  ·subst e; rw [h]; simp
  ·simp [e]
 ·rw [if_neg h,List.any_append]
  by_cases e:k=v
  ·subst e; simp
  ·have hb:(v==k)=false:=by
    rw [beq_eq_false_iff_ne]; exact fun h'=>e h'.symm
   simp [hb,e]
theorem stepS_length (σ:List Str) (v:Str):(stepS σ v).length=if σ.any (· == v) then σ.length else σ.length+1:=by
 unfold stepS; split <;> simp
section
variable {prog:Program} {w:World} {A:Around} {R:Result→Shared→Prop} {I:Addr} {fp wr:List Addr} {G:Array GenState→Array GenState→Prop} {n:Nat} {P:Nat→Value→Prop} {St:Nat→Shared→Prop}
theorem set_loopS (W:WalksS prog w A.in1 I fp wr G n P St) (S:Addr) (hSf:S∉fp)
  (val:Nat→Str) (hval:∀ i v,P i v→∃ t,v=.str (val i) t) (hb:n+1<scanBound) :
  ∀ (k i:Nat) (s:Shared),n-i=k→i≤n→St i s→
   s.heap.SetOf (PySem.strKind prog w) S (fun k'=>(metS val i).any (· == k')) (metS val i).length→
   (∀ s',Moved (S::wr) G s s'→s'.heap.SetOf (PySem.strKind prog w) S (fun k'=>(metS val n).any (· == k')) (metS val n).length→R (.ok (.ret .none)) s')→
   codeAny (model prog w) A (.builtin "set.update.loop" ⟨[.ref S,.ref I],[]⟩) R s:=by
 have hSw:S∉wr:=fun h=>hSf (W.sub _ h)
 have hsub:∀ b∈wr,b∈S::wr:=fun b hb=>List.mem_cons_of_mem _ hb
 intro k
 induction k with
 | zero=>
  intro i s hk hi hst hS hR
  have hin:i=n:=by omega
  subst hin
  refine codeAny_builtin PyProof.Rows.F.entry_set_update_loop ?_
  rw [Around.under_plainId PyProof.Rows.F.plain_set_update_loop _]
  show wpAny _ A.in1 (pyNext (.ref I)>>=_) _ _ s
  refine wpAny_bind (W.done s _ _ hst fun s' hm=>?_)
  show wpAny _ A.in1 (ret Value.none) _ _ s'
  exact wpAny_pure (hR s' (hm.mono hsub) (by
   obtain⟨o,es,ep,t,ho,rest⟩:=hS
   exact⟨o,es,ep,t,hm.heap S _ hSw ho,rest⟩))
 | succ k ih=>
  intro i s hk hi hst hS hR
  have hlt:i<n:=by omega
  refine codeAny_builtin PyProof.Rows.F.entry_set_update_loop ?_
  rw [Around.under_plainId PyProof.Rows.F.plain_set_update_loop _]
  show wpAny _ A.in1 (pyNext (.ref I)>>=_) _ _ s
  refine wpAny_bind (W.item i s _ _ hlt hst fun v s' hP hst' hm=>?_)
  obtain⟨t,rfl⟩:=hval i v hP
  have hS':s'.heap.SetOf (PySem.strKind prog w) S (fun k'=>(metS val i).any (· == k')) (metS val i).length:=by
   obtain⟨o,es,ep,tb,ho,rest⟩:=hS
   exact⟨o,es,ep,tb,hm.heap S _ hSw ho,rest⟩
  have his:(PySem.strKind prog w).is (val i) (.str (val i) t)=true:=by show Value.isStrOf (val i) (.str (val i) t)=true; simp [Value.isStrOf]
  show wpAny _ A.in1 (holding [Value.str (val i) t] (setAdd S (.str (val i) t))>>=_) _ _ s'
  refine wpAny_bind (wpAny_holding ?_)
  unfold setAdd
  refine wpAny_holding ?_
  refine wpAny_bind ((PySem.strKind prog w).pyHash (k:=val i) his ?_)
  have hroom:(metS val i).length+1<scanBound:=by have:=metS_length_le val i; omega
  refine wpAny_setAddHashed_of (knd:=PySem.strKind prog w) (s:={s' with toks:=s'.toks+1}) his rfl hS' hroom fun h' hsb hS2=>?_
  have hSi:h'.SetOf (PySem.strKind prog w) S (fun k'=>(metS val (i+1)).any (· == k')) (metS val (i+1)).length:=
   SetOf_congr hS2 (fun k'=>by rw [metS_succ,stepS_any]) (by rw [metS_succ,stepS_length])
  refine wpAny_pure ⟨plainId_quiet PyProof.Rows.F.plain_set_update_loop _,ih (i+1) _ (by omega) hlt (W.frame _ s' _ _ hst' (Nat.le_succ _) fun b hb o e=>?_) hSi fun s'' hm'' hS''=>?_⟩
  ·rw [hsb.2 b (fun h:b=S=>hSf (by rw [← h]; exact hb))]; exact e
  ·refine hR s'' (Moved.trans W.gtrans ((hm.mono hsub).then_heap (Nat.le_succ _) fun b o hb e=>?_) hm'') hS''
   rw [hsb.2 b (fun h:b=S=>hb (by rw [h]; exact List.mem_cons_self))]; exact e
end
open Sem (wp)
theorem sub_list_setS:isSubtype (.type "list") (.type "set")=pure false:=by rw [isSubtype_type]; kernel_rfl
theorem sub_list_frozensetS:isSubtype (.type "list") (.type "frozenset")=pure false:=by rw [isSubtype_type]; kernel_rfl
theorem call_set_listS {prog:Program} {w:World} {A:Around} {E:Value→Shared→Prop} {s:Shared} {l:Addr} {items:Array Value} {val:Nat→Str} {Q:Value→Shared→Prop}
  (hh:A.handled=none) (hl:s.heap.IsList l items) (hi:∀ (i:Nat) (v:Value),items[i]? = some v→∃ t,v=.str (val i) t) (hb:items.size+1<scanBound)
  (h:∀ (h':Heap) (tk:Nat),h'.SetOf (PySem.strKind prog w) s.heap.objs.size (fun k'=>(metS val items.size).any (· == k')) (metS val items.size).length→
   (∀ b o,b<s.heap.objs.size→s.heap.get? b=some o→h'.get? b=some o)→Q (.ref s.heap.objs.size) {s with heap:=h',toks:=tk}) :
  wpAny (model prog w) A (call (.type "set") [.ref l]) Q E s:=by
 obtain⟨c,tl,hmro⟩:=PySem.F.called_set.mro
 have hmade:=PySem.F.called_set.made
 have hsub:=PySem.F.called_set.sub
 refine wpAny_call (codeAny_of_tree ?_)
 show wpAny _ _ (callAny (.type "set") _) _ _ _
 refine wpAny_pure ⟨Code.quiet_builtin _ (by decide +kernel),codeAny_builtin PySem.F.entry_type_call ?_⟩
 rw [Around.under_plain (weight_type_call_type "set" [.ref l] []) rfl]
 have h1:=PySem.F.called_set.notType
 have h2:=PySem.F.called_set.canCreate
 have hct:=PySem.F.typeCall_set_1 (.ref l)
 repeat (any_goals (first | assumption | wp_step))
 refine codeAny_mono (code_set_new_1 (.ref l) (E:=E) (Q₁:=fun obj s₁=>∃ led:Bool,obj=.ref s.heap.objs.size∧s₁={s with heap:=s.heap.push {cls:=.type "set",dict:=none,data:=.set #[] 0 (.fresh 0 0 led)}}) fun led=>⟨led,rfl,rfl⟩) fun r s₁ hr=>?_
 cases r with
 | error e=>exact hr
 | ok fl=>
  cases fl with
  | ret obj=>
   obtain⟨led,rfl,rfl⟩:=hr
   have hS:(s.heap.push {cls:=.type "set",dict:=none,data:=.set #[] 0 (.fresh 0 0 led)}).get? s.heap.objs.size=some {cls:=.type "set",dict:=none,data:=.set #[] 0 (.fresh 0 0 led)}:=Heap.get?_push_size _ rfl
   have hT:Shared.TypeIs {s with heap:=s.heap.push {cls:=.type "set",dict:=none,data:=.set #[] 0 (.fresh 0 0 led)}} (.ref s.heap.objs.size) "set":=⟨_,hS,rfl⟩
   have hli:=PySem.F.called_set.init.lookup
   have hbi:=PySem.F.called_set.init.bind (.ref s.heap.objs.size)
   repeat (any_goals (first | assumption | wp_step))
   refine codeAny_mono (codeAny_call_builtin (R:=wants (fun r s₂=>r=.none∧∃ h' tk,s₂={s with heap:=h',toks:=tk}∧
     h'.SetOf (PySem.strKind prog w) s.heap.objs.size (fun k'=>(metS val items.size).any (· == k')) (metS val items.size).length∧
     (∀ b o,b<s.heap.objs.size→s.heap.get? b=some o→h'.get? b=some o)) E) PySem.F.called_set.init.plain PySem.F.entry_set_init (check_set_init_1 hT ?_)) fun r₂ s₂ hr₂=>?_
   ·obtain⟨ol,hol,hcl,nl,hdl⟩:=hl
    obtain⟨ocls,odict,odata,oslots⟩:=ol
    simp only at hcl hdl
    subst hcl; subst hdl
    have hol':(s.heap.push {cls:=.type "set",dict:=none,data:=.set #[] 0 (.fresh 0 0 led)}).get? l=some {cls:=.type "list",dict:=odict,data:=.seq items nl,slots:=oslots}:=Heap.get?_push_of_some _ hol
    have hsls:=sub_list_setS
    have hslf:=sub_list_frozensetS
    have hne:(Value.type "list"==Value.type "dict")=false:=by decide
    have hl1:(s.heap.push {cls:=.type "set",dict:=none,data:=.set #[] 0 (.fresh 0 0 led)}).IsList l items:=⟨_,hol',rfl,nl,rfl⟩
    unfold Builtin.«set.__init__» noKeywords Builtin.Frozenset.updateFrom
    generalize hPI:pyIter=PI
    wp_walk
    subst hPI
    refine wpAny_pyIter_list hl1 ?_
    refine wpAny_bind (wpAny_runValue ?_)
    have hlS:l<s.heap.objs.size:=Heap.lt_size hol
    have hh3:A.in1.in1.in1.handled=none:=by simp [hh]
    have hneI:l≠(s.heap.push {cls:=.type "set",dict:=none,data:=.set #[] 0 (.fresh 0 0 led)}).objs.size:=by
     rw [Heap.size_push]; exact Nat.ne_of_lt (Nat.lt_succ_of_lt hlS)
    have hSf:s.heap.objs.size∉[(s.heap.push {cls:=.type "set",dict:=none,data:=.set #[] 0 (.fresh 0 0 led)}).objs.size,l]:=by
     rw [Heap.size_push]; simp only [List.mem_cons,List.mem_singleton,List.not_mem_nil,or_false,not_or]
     exact⟨Nat.ne_of_lt (Nat.lt_succ_self _),Nat.ne_of_gt hlS⟩
    refine set_loopS ((Walks.list hh3 _ l hneI items).toS) s.heap.objs.size
     hSf val hi hb (items.size-0) 0 _ (by omega) (Nat.zero_le _)
     ⟨⟨_,Heap.get?_push_size _ rfl,rfl,rfl⟩,(hl1.push _)⟩ ?hS0 ?hR
    case hS0=>
     have hget:((s.heap.push {cls:=.type "set",dict:=none,data:=.set #[] 0 (.fresh 0 0 led)}).push {cls:=.type "list_iterator",data:=.fields #[.ref l,.int 0 0]}).get? s.heap.objs.size
       = some {cls:=.type "set",dict:=none,data:=.set #[] 0 (.fresh 0 0 led)}:=Heap.get?_push_of_some _ hS
     exact PyProof.Rows.SetOf_congr ((PyProof.Rows.setObjOf_fresh (knd:=PySem.strKind prog w) led).setOf hget (by unfold scanBound; omega)) (fun _=>rfl) rfl
    case hR=>
     intro s' hm hS'
     obtain⟨h',g',d',tk',os'⟩:=s'
     have eg:g'=s.gens:=hm.gens
     have ed:d'=s.drawn:=hm.drawn
     have eo:os'=s.os:=hm.os
     subst eg; subst ed; subst eo
     show wpAny _ _ _ _ _ _
     refine wpAny_pure ?_
     show wpAny _ _ (ret Value.none) _ _ _
     refine wpAny_pure ⟨rfl,h',tk',rfl,hS',fun b o hb e=>?_⟩
     have hb1:b≠s.heap.objs.size:=Nat.ne_of_lt hb
     have hb2:b≠(s.heap.push {cls:=.type "set",dict:=none,data:=.set #[] 0 (.fresh 0 0 led)}).objs.size:=by
      rw [Heap.size_push]; exact Nat.ne_of_lt (Nat.lt_succ_of_lt hb)
     exact hm.heap b o (by simp only [List.mem_cons,List.mem_singleton,List.not_mem_nil,or_false,not_or]; exact⟨hb1,hb2⟩) (Heap.get?_push_of_some _ (Heap.get?_push_of_some _ e))
   ·cases r₂ with
    | error e=>exact hr₂
    | ok fl₂=>
     cases fl₂ with
     | ret r=>
      obtain⟨rfl,h',tk,rfl,hS',hk'⟩:=hr₂
      repeat (any_goals (first | assumption | wp_step))
      exact h _ _ hS' hk'
     | _=>exact hr₂.elim
  | _=>exact hr.elim
theorem sub_tuple_setS:isSubtype (.type "tuple") (.type "set")=pure false:=by rw [isSubtype_type]; kernel_rfl
theorem sub_tuple_frozensetS:isSubtype (.type "tuple") (.type "frozenset")=pure false:=by rw [isSubtype_type]; kernel_rfl
theorem call_set_tupleS {prog:Program} {w:World} {A:Around} {E:Value→Shared→Prop} {s:Shared} {l:Addr} {items:Array Value} {val:Nat→Str} {Q:Value→Shared→Prop}
  (hh:A.handled=none) (hl:s.heap.IsTuple l items) (hi:∀ (i:Nat) (v:Value),items[i]? = some v→∃ t,v=.str (val i) t) (hb:items.size+1<scanBound)
  (h:∀ (h':Heap) (tk:Nat),h'.SetOf (PySem.strKind prog w) s.heap.objs.size (fun k'=>(metS val items.size).any (· == k')) (metS val items.size).length→
   (∀ b o,b<s.heap.objs.size→s.heap.get? b=some o→h'.get? b=some o)→Q (.ref s.heap.objs.size) {s with heap:=h',toks:=tk}) :
  wpAny (model prog w) A (call (.type "set") [.ref l]) Q E s:=by
 obtain⟨c,tl,hmro⟩:=PySem.F.called_set.mro
 have hmade:=PySem.F.called_set.made
 have hsub:=PySem.F.called_set.sub
 refine wpAny_call (codeAny_of_tree ?_)
 show wpAny _ _ (callAny (.type "set") _) _ _ _
 refine wpAny_pure ⟨Code.quiet_builtin _ (by decide +kernel),codeAny_builtin PySem.F.entry_type_call ?_⟩
 rw [Around.under_plain (weight_type_call_type "set" [.ref l] []) rfl]
 have h1:=PySem.F.called_set.notType
 have h2:=PySem.F.called_set.canCreate
 have hct:=PySem.F.typeCall_set_1 (.ref l)
 repeat (any_goals (first | assumption | wp_step))
 refine codeAny_mono (code_set_new_1 (.ref l) (E:=E) (Q₁:=fun obj s₁=>∃ led:Bool,obj=.ref s.heap.objs.size∧s₁={s with heap:=s.heap.push {cls:=.type "set",dict:=none,data:=.set #[] 0 (.fresh 0 0 led)}}) fun led=>⟨led,rfl,rfl⟩) fun r s₁ hr=>?_
 cases r with
 | error e=>exact hr
 | ok fl=>
  cases fl with
  | ret obj=>
   obtain⟨led,rfl,rfl⟩:=hr
   have hS:(s.heap.push {cls:=.type "set",dict:=none,data:=.set #[] 0 (.fresh 0 0 led)}).get? s.heap.objs.size=some {cls:=.type "set",dict:=none,data:=.set #[] 0 (.fresh 0 0 led)}:=Heap.get?_push_size _ rfl
   have hT:Shared.TypeIs {s with heap:=s.heap.push {cls:=.type "set",dict:=none,data:=.set #[] 0 (.fresh 0 0 led)}} (.ref s.heap.objs.size) "set":=⟨_,hS,rfl⟩
   have hli:=PySem.F.called_set.init.lookup
   have hbi:=PySem.F.called_set.init.bind (.ref s.heap.objs.size)
   repeat (any_goals (first | assumption | wp_step))
   refine codeAny_mono (codeAny_call_builtin (R:=wants (fun r s₂=>r=.none∧∃ h' tk,s₂={s with heap:=h',toks:=tk}∧
     h'.SetOf (PySem.strKind prog w) s.heap.objs.size (fun k'=>(metS val items.size).any (· == k')) (metS val items.size).length∧
     (∀ b o,b<s.heap.objs.size→s.heap.get? b=some o→h'.get? b=some o)) E) PySem.F.called_set.init.plain PySem.F.entry_set_init (check_set_init_1 hT ?_)) fun r₂ s₂ hr₂=>?_
   ·obtain⟨ol,hol,hcl,nl,hdl⟩:=hl
    obtain⟨ocls,odict,odata,oslots⟩:=ol
    simp only at hcl hdl
    subst hcl; subst hdl
    have hol':(s.heap.push {cls:=.type "set",dict:=none,data:=.set #[] 0 (.fresh 0 0 led)}).get? l=some {cls:=.type "tuple",dict:=odict,data:=.seq items nl,slots:=oslots}:=Heap.get?_push_of_some _ hol
    have hsls:=sub_tuple_setS
    have hslf:=sub_tuple_frozensetS
    have hne:(Value.type "tuple"==Value.type "dict")=false:=by decide
    have hl1:(s.heap.push {cls:=.type "set",dict:=none,data:=.set #[] 0 (.fresh 0 0 led)}).IsTuple l items:=⟨_,hol',rfl,nl,rfl⟩
    unfold Builtin.«set.__init__» noKeywords Builtin.Frozenset.updateFrom
    generalize hPI:pyIter=PI
    wp_walk
    subst hPI
    refine wpAny_pyIter_tuple hl1 ?_
    refine wpAny_bind (wpAny_runValue ?_)
    have hlS:l<s.heap.objs.size:=Heap.lt_size hol
    have hh3:A.in1.in1.in1.handled=none:=by simp [hh]
    have hneI:l≠(s.heap.push {cls:=.type "set",dict:=none,data:=.set #[] 0 (.fresh 0 0 led)}).objs.size:=by
     rw [Heap.size_push]; exact Nat.ne_of_lt (Nat.lt_succ_of_lt hlS)
    have hSf:s.heap.objs.size∉[(s.heap.push {cls:=.type "set",dict:=none,data:=.set #[] 0 (.fresh 0 0 led)}).objs.size,l]:=by
     rw [Heap.size_push]; simp only [List.mem_cons,List.mem_singleton,List.not_mem_nil,or_false,not_or]
     exact⟨Nat.ne_of_lt (Nat.lt_succ_self _),Nat.ne_of_gt hlS⟩
    refine set_loopS ((Walks.tuple hh3 _ l hneI items).toS) s.heap.objs.size
     hSf val hi hb (items.size-0) 0 _ (by omega) (Nat.zero_le _)
     ⟨⟨_,Heap.get?_push_size _ rfl,rfl,rfl⟩,(hl1.push _)⟩ ?hS0 ?hR
    case hS0=>
     have hget:((s.heap.push {cls:=.type "set",dict:=none,data:=.set #[] 0 (.fresh 0 0 led)}).push {cls:=.type "tuple_iterator",data:=.fields #[.ref l,.int 0 0]}).get? s.heap.objs.size
       = some {cls:=.type "set",dict:=none,data:=.set #[] 0 (.fresh 0 0 led)}:=Heap.get?_push_of_some _ hS
     exact PyProof.Rows.SetOf_congr ((PyProof.Rows.setObjOf_fresh (knd:=PySem.strKind prog w) led).setOf hget (by unfold scanBound; omega)) (fun _=>rfl) rfl
    case hR=>
     intro s' hm hS'
     obtain⟨h',g',d',tk',os'⟩:=s'
     have eg:g'=s.gens:=hm.gens
     have ed:d'=s.drawn:=hm.drawn
     have eo:os'=s.os:=hm.os
     subst eg; subst ed; subst eo
     show wpAny _ _ _ _ _ _
     refine wpAny_pure ?_
     show wpAny _ _ (ret Value.none) _ _ _
     refine wpAny_pure ⟨rfl,h',tk',rfl,hS',fun b o hb e=>?_⟩
     have hb1:b≠s.heap.objs.size:=Nat.ne_of_lt hb
     have hb2:b≠(s.heap.push {cls:=.type "set",dict:=none,data:=.set #[] 0 (.fresh 0 0 led)}).objs.size:=by
      rw [Heap.size_push]; exact Nat.ne_of_lt (Nat.lt_succ_of_lt hb)
     exact hm.heap b o (by simp only [List.mem_cons,List.mem_singleton,List.not_mem_nil,or_false,not_or]; exact⟨hb1,hb2⟩) (Heap.get?_push_of_some _ (Heap.get?_push_of_some _ e))
   ·cases r₂ with
    | error e=>exact hr₂
    | ok fl₂=>
     cases fl₂ with
     | ret r=>
      obtain⟨rfl,h',tk,rfl,hS',hk'⟩:=hr₂
      repeat (any_goals (first | assumption | wp_step))
      exact h _ _ hS' hk'
     | _=>exact hr₂.elim
  | _=>exact hr.elim
def SetT (P:Program) (w:World) (p:Addr) (xs:List Str):HO:=HO.ext fun h=>h.SetOf (PySem.strKind P w) p (fun k=>(xs.foldl stepS []).any (· == k)) (xs.foldl stepS []).length
theorem metS_list (xs:List Str):metS (fun i=>xs.getD i Str.empty) xs.length=xs.foldl stepS []:=by
 unfold metS
 congr 1
 apply List.ext_getElem
 ·simp
 ·intro i h1 h2
  simp [List.getD,h2]
theorem strs_get {xs:List Str} {its:List Value} (r:Vals (xs.map V.str) its):∀ (i:Nat) (v:Value),its.toArray[i]? = some v→∃ t,v=.str (xs.getD i Str.empty) t:=fun i v e=>by
 have hlen:=r.length
 rw [List.length_map] at hlen
 have e:its[i]? = some v:=by simpa using e
 have hi:i<its.length:=(List.getElem?_eq_some_iff.mp e).1
 have hb:i<xs.length:=by omega
 obtain⟨u,hu,ru⟩:=r.get (i:=i) (x:=V.str xs[i]) (by simp [hb])
 rw [e] at hu; cases hu
 obtain⟨t,rfl⟩:=ru
 exact⟨t,by simp [List.getD,hb]⟩
section
variable {X:Cx}
theorem call_setT (hc:X.calm=true):CallR X (.type "set") (fun xs H Q=>∃ (p:Addr) (ys:List Str),xs=[.ref p]∧(SqL X.K H p (ys.map V.str)∨SqT X.K H p (ys.map V.str))∧ys.length+1<scanBound∧∀ d,H d=none→Q (.ref d) (upd H d (SetT X.prog X.w d ys))):=by
 intro pins s σ H xs us Q I r h
 obtain⟨p,ys,rfl,hq,hb,q⟩:=h
 obtain⟨u,rfl,rx⟩:=vals1 r
 cases rx
 have fin:∀ (its:List Value),ys.length=its.length→∀ (h':Heap) (tk:Nat),h'.SetOf (PySem.strKind X.prog X.w) s.heap.objs.size (fun k'=>(metS (fun i=>ys.getD i Str.empty) its.toArray.size).any (· == k')) (metS (fun i=>ys.getD i Str.empty) its.toArray.size).length→
   (∀ b o,b<s.heap.objs.size→s.heap.get? b=some o→h'.get? b=some o)→EP X pins σ Q (.ref s.heap.objs.size) {s with heap:=h',toks:=tk}:=fun its hl h' tk hS kk=>by
  have esz:its.toArray.size=ys.length:=by rw [List.size_toArray,hl]
  rw [esz,metS_list] at hS
  refine⟨.ref s.heap.objs.size,_,I.laid (t':=tk) (fun b o e=>kk b o (Heap.lt_size e) e) (Nat.le_refl _) ?_,rfl,q _ (I.hok.fresh (Nat.le_refl _))⟩
  refine⟨hS,?_,fun h1 h2 a b=>?_⟩
  ·obtain⟨o,es,ep,t,ho,_⟩:=hS
   exact⟨o,ho⟩
  ·obtain⟨o,es,ep,t,ho,rest⟩:=a
   exact⟨o,es,ep,t,b o ho,rest⟩
 rcases hq with hq | hq
 ·obtain⟨its,r',pl,hz⟩:=I.list hq
  have hlen:=r'.length
  rw [List.length_map] at hlen
  exact call_set_listS (val:=fun i=>ys.getD i Str.empty) (I.ok.hd hc) pl.isList (strs_get r') (by rw [List.size_toArray]; omega) (fin its hlen)
 ·obtain⟨its,r',pl,hz⟩:=I.tuple hq
  have hlen:=r'.length
  rw [List.length_map] at hlen
  exact call_set_tupleS (val:=fun i=>ys.getD i Str.empty) (I.ok.hd hc) pl (strs_get r') (by rw [List.size_toArray]; omega) (fin its hlen)
theorem call_lenT:CallR X (.builtin "len") (fun xs H Q=>∃ (p:Addr) (ys:List Str),xs=[.ref p]∧H p=some (SetT X.prog X.w p ys)∧Q (.int (ys.foldl stepS []).length) H):=by
 intro pins s σ H xs us Q I r h
 obtain⟨p,ys,rfl,hp,q⟩:=h
 obtain⟨u,rfl,rx⟩:=vals1 r
 cases rx
 obtain⟨hS,_,_⟩:=I.hok p _ hp
 have hS:s.heap.SetOf (PySem.strKind X.prog X.w) p (fun k=>(ys.foldl stepS []).any (· == k)) (ys.foldl stepS []).length:=hS
 obtain⟨o,es,ep,t,ho,hex,hd,_,_,hsb,hf,hn⟩:=hS
 refine call_len_set ho hex hd hf (by unfold scanBound at hsb; omega) ⟨.int (ys.foldl stepS []).length,H,I.tok _,⟨_,by rw [hn]⟩,q⟩
end
theorem foldS_nodup:∀ (xs σ:List Str),xs.Nodup→(∀ x∈xs,¬ x∈σ)→(xs.foldl stepS σ).length=σ.length+xs.length
 | [],σ,_,_=>by simp
 | x::r,σ,h,hn=>by
  obtain⟨h1,h2⟩:=List.nodup_cons.mp h
  have e:stepS σ x=σ++[x]:=by
   unfold stepS
   rw [if_neg]
   intro z
   obtain⟨y,hy,e⟩:=List.any_eq_true.mp z
   exact hn x List.mem_cons_self (by rw [← eq_of_beq e]; exact hy)
  rw [List.foldl_cons,e,foldS_nodup r _ h2 fun y hy z=>?_]
  ·simp; omega
  ·rcases List.mem_append.mp z with q | q
   ·exact hn y (List.mem_cons_of_mem _ hy) q
   ·exact h1 (by rw [← List.mem_singleton.mp q]; exact hy)
section
variable {X:Cx}
mutual
inductive RdsV (H:Hp):V→PyData→Prop where
 | non:RdsV H .non .none
 | bl (b:Bool):RdsV H (.bl b) (.bool b)
 | int (i:Int):RdsV H (.int i) (.int i)
 | str (x:Str):RdsV H (.str x) (.str x)
 | lst {a:Addr} {xs:List V} {ds:List PyData}:H a=some (.lst xs)→RdsA H xs ds→RdsV H (.ref a) (.list ds)
 | tup {a:Addr} {xs:List V} {ds:List PyData}:H a=some (.tup xs)→RdsA H xs ds→RdsV H (.ref a) (.tuple ds)
inductive RdsA (H:Hp):List V→List PyData→Prop where
 | nil:RdsA H [] []
 | cons {x:V} {xs:List V} {d:PyData} {ds:List PyData}:RdsV H x d→RdsA H xs ds→RdsA H (x::xs) (d::ds)
end
mutual
theorem RdsV.reads {P:Program} {w:World} {H:Hp} {h:Heap} (ok:HOk P w H h):∀ {x:V} {d:PyData},RdsV H x d→∀ {u:Value},RelV x u→∃ as,Reads h u d as
 | _,_,.non,u,r=>by cases r; exact⟨_,.none⟩
 | _,_,.bl b,u,r=>by cases r; exact⟨_,.bool b⟩
 | _,_,.int i,u,r=>by obtain⟨t,rfl⟩:=r; exact⟨_,.int i t⟩
 | _,_,.str x,u,r=>by obtain⟨t,rfl⟩:=r; exact⟨_,.str x t⟩
 | _,_,.lst (a:=a) e z,u,r=>by
  cases r
  obtain⟨_,its,n,rv,e1⟩:=ok a _ e
  obtain⟨as,q⟩:=RdsA.reads ok z rv
  exact⟨_,.list e1 rfl rfl (by simpa using q)⟩
 | _,_,.tup (a:=a) e z,u,r=>by
  cases r
  obtain⟨_,its,rv,o,e1,e2,n,e3⟩:=ok a _ e
  obtain⟨as,q⟩:=RdsA.reads ok z rv
  exact⟨_,.tuple e1 e2 e3 (by simpa using q)⟩
theorem RdsA.reads {P:Program} {w:World} {H:Hp} {h:Heap} (ok:HOk P w H h):∀ {xs:List V} {ds:List PyData},RdsA H xs ds→∀ {us:List Value},Vals xs us→∃ as,ReadsAll h us ds as
 | _,_,.nil,_,.nil=>⟨_,.nil⟩
 | _,_,.cons a b,_,.cons r t=>by
  obtain⟨as,q1⟩:=RdsV.reads ok a r
  obtain⟨bs,q2⟩:=RdsA.reads ok b t
  exact⟨_,.cons q1 q2⟩
end
theorem call_isiT {T:String}:CallR X (.builtin "isinstance") (fun xs H Q=>∃ (x:V) (t:Value) (b:Bool),xs=[x,.ty T]∧TyOf X.K H x t∧PySem.W.kitOne X.K t (.type T)=some b∧Q (.bl b) H):=by
 intro pins s σ H xs us Q I r h
 obtain⟨x,t,b,rfl,ty,e,q⟩:=h
 obtain⟨u,u',rfl,rx,ry⟩:=vals2 r
 cases ry
 exact isinst_ok I rx ty e fun tk=>⟨.bl b,H,I.tok tk,rfl,q⟩
theorem isinst_tup {pins:List (Addr×Obj)} {σ:St} {H:Hp} {s:Shared} {A:Around} {E:Value→Shared→Prop} {Q:Value→Shared→Prop} {b:Bool} {x:V} {u t:Value} {tp:Addr} {cs:List Value} (I:Inv X pins σ H s) (rx:RelV x u) (ty:TyOf X.K H x t)
  (htp:∃ (dd:Option Addr) (n:Nat) (sl:Array (Option Value)),s.heap.get? tp=some ⟨.type "tuple",dd,.seq cs.toArray n,sl⟩) (e:PySem.W.kitAny X.K t cs=some b) (h:∀ tk,Q (.bool b) {s with toks:=tk}) :
  wpAny (model X.prog X.w) A (call (.builtin "isinstance") [u,.ref tp]) Q E s:=by
 obtain⟨dd,n,sl,htp⟩:=htp
 cases ty with
 | non=>cases (show u=Value.none from rx); exact PySem.W.kia_tup PySem.W.kitx_none I.kIn True.intro htp e (fun z=>nomatch z) h
 | bl y=>cases (show u=Value.bool y from rx); exact PySem.W.kia_tup PySem.W.kitx_bool I.kIn True.intro htp e (fun z=>nomatch z) h
 | int i=>obtain⟨t,q⟩:=(show ∃ t,u=Value.int i t from rx); cases q; exact PySem.W.kia_tup PySem.W.kitx_int I.kIn True.intro htp e (fun z=>nomatch z) h
 | str y=>obtain⟨t,q⟩:=(show ∃ t,u=Value.str y t from rx); cases q; exact PySem.W.kia_tup PySem.W.kitx_str I.kIn True.intro htp e (fun z=>nomatch z) h
 | flt y=>obtain⟨t,q⟩:=(show ∃ t,u=Value.float y t from rx); cases q; exact PySem.W.kia_tup PySem.W.kitx_float I.kIn True.intro htp e (fun z=>nomatch z) h
 | @lst a xs ea=>
  cases (show u=Value.ref a from rx)
  obtain⟨_,_,n,_,h1⟩:=(show ObjOk X.prog X.w H s.heap a (.lst xs) from I.hok a _ ea)
  exact PySem.W.kia_tup PySem.W.kitx_list I.kIn ⟨_,h1,rfl⟩ htp e (fun z=>nomatch z) h
 | @frz a ob xs ea=>
  cases (show u=Value.ref a from rx)
  obtain⟨_,_,_,n,_,h1⟩:=(show ObjOk X.prog X.w H s.heap a (.frz ob (.lst xs)) from I.hok a _ ea)
  exact PySem.W.kia_tup PySem.W.kitx_list I.kIn ⟨_,h1,rfl⟩ htp e (fun z=>nomatch z) h
 | @tup a xs ea=>
  cases (show u=Value.ref a from rx)
  obtain⟨_,_,_,p⟩:=(show ObjOk X.prog X.w H s.heap a (.tup xs) from I.hok a _ ea)
  obtain⟨o,h1,h2,_⟩:=p
  exact PySem.W.kia_tup PySem.W.kitx_tuple I.kIn ⟨o,h1,h2⟩ htp e (fun z=>nomatch z) h
 | @dK a kvs ea=>
  cases (show u=Value.ref a from rx)
  obtain⟨_,_,vs,_,p⟩:=(show ObjOk X.prog X.w H s.heap a (.dK kvs) from I.hok a _ ea)
  obtain⟨o,es,ep,h1,h2,_⟩:=p
  exact PySem.W.kia_tup PySem.W.kitx_dict I.kIn ⟨o,h1,h2.1⟩ htp e (fun z=>nomatch z) h
 | @dT a kvs ea=>
  cases (show u=Value.ref a from rx)
  obtain⟨_,_,xs,_,o,es,ep,h1,h2,_⟩:=(show ObjOk X.prog X.w H s.heap a (.dT kvs) from I.hok a _ ea)
  exact PySem.W.kia_tup PySem.W.kitx_dict I.kIn ⟨o,h1,h2.1⟩ htp e (fun z=>nomatch z) h
 | @ins a C dx fs ea cl ha hn htk hm=>
  cases (show u=Value.ref a from rx)
  obtain⟨mA,O,_⟩:=ins_get I.hok ea
  obtain⟨od,J,_⟩:=O.look
  exact PySem.W.kia_tup (PySem.W.kitx_own (cl.get _) cl.hd ha hn htk hm) I.kIn J htp e (fun z=>nomatch z) h
theorem call_isi2 {T U:String}:CallR X (.builtin "isinstance") (fun xs H Q=>∃ (x:V) (p:Addr) (t:Value) (b:Bool),xs=[x,.ref p]∧H p=some (.tup [.ty T,.ty U])∧TyOf X.K H x t∧PySem.W.kitAny X.K t [.type T,.type U]=some b∧Q (.bl b) H):=by
 intro pins s σ H xs us Q I r h
 obtain⟨x,p,t,b,rfl,hp,ty,e,q⟩:=h
 obtain⟨u,u',rfl,rx,ry⟩:=vals2 r
 cases ry
 obtain⟨_,its,rv,o,h1,h2,n,h3⟩:=I.hok p _ hp
 obtain⟨a,b',rfl,ra,rb⟩:=vals2 rv
 cases ra
 cases rb
 refine isinst_tup (cs:=[.type T,.type U]) I rx ty ?_ e fun tk=>⟨.bl b,H,I.tok tk,rfl,q⟩
 obtain⟨oc,od,odt,osl⟩:=o
 cases h2
 cases h3
 exact⟨od,n,osl,h1⟩
end
section
variable {X:Cx}
def rCatTT (K:PySem.W.Frag):R2:=fun x y H Q=>∃ a b xs ys,x=.ref a∧y=.ref b∧SqT K H a xs∧SqT K H b ys∧xs.length+ys.length≤sizeLine∧
 (xs=[]→Q (.ref b) H)∧(xs≠[]→ys=[]→Q (.ref a) H)∧(xs≠[]→ys≠[]→∀ p,H p=none→Q (.ref p) (upd H p (.tup (xs++ys))))
theorem op_catTT:OpR X (binaryOp .Add) (rCatTT X.K):=by
 intro pins s σ H x y v u Q I rx ry h
 obtain⟨a,b,xs,ys,rfl,rfl,ha,hb,hz,q0,q1,q2⟩:=h
 by_cases hx:xs=[]
 ·cases rx
  cases ry
  obtain⟨its,r1,p1,_⟩:=I.tuple ha
  obtain⟨its2,r2,p2,_⟩:=I.tuple hb
  obtain⟨⟨cls,dd,data,sl⟩,ho,hc,n,hd⟩:=id p1
  obtain⟨⟨cls2,dd2,data2,sl2⟩,ho2,hc2,n2,hd2⟩:=id p2
  simp only at hc hd hc2 hd2
  subst hc hd hc2 hd2
  have e:its=[]:=r1.nil_iff.mpr hx
  exact concat_meets ⟨_,ho,rfl⟩ ⟨_,ho2,rfl⟩ noFill_tuple_add seq_tuple_add PySem.F.slot_tuple_add PySem.F.entry_tuple_add (PySem.F.args_tuple_add_2 _ _)
   (tuple_addW0 a b its.toArray its2.toArray n n2 dd dd2 sl sl2 (by simp [e])) ⟨ho,ho2,⟨.ref b,H,I,rfl,q0 hx⟩⟩
 ·exact op_catT pins s σ H _ _ v u Q I rx ry ⟨a,b,xs,ys,rfl,rfl,ha,hb,hx,hz,q1 hx,q2 hx⟩
theorem bt_len:bootBuiltins "len"=some (.builtin "len"):=by decide +kernel
theorem bt_max:bootBuiltins "max"=some (.builtin "max"):=by decide +kernel
theorem bt_abs:bootBuiltins "abs"=some (.builtin "abs"):=by decide +kernel
theorem bt_divmod:bootBuiltins "divmod"=some (.builtin "divmod"):=by decide +kernel
theorem bt_all:bootBuiltins "all"=some (.builtin "all"):=by decide +kernel
theorem bt_isinstance:bootBuiltins "isinstance"=some (.builtin "isinstance"):=by decide +kernel
theorem bt_list:bootBuiltins "list"=some (.type "list"):=by decide +kernel
theorem bt_tuple:bootBuiltins "tuple"=some (.type "tuple"):=by decide +kernel
theorem bt_int:bootBuiltins "int"=some (.type "int"):=by decide +kernel
theorem bt_str:bootBuiltins "str"=some (.type "str"):=by decide +kernel
theorem bt_set:bootBuiltins "set"=some (.type "set"):=by decide +kernel
theorem bt_bool:bootBuiltins "bool"=some (.type "bool"):=by decide +kernel
def Def (P:Program) (w:World) (K:PySem.W.Frag) (mg:Str→Option Value) (base:Heap) (x:Str) (k:Nat) (ps:List Str) (sp:Sp):Prop:=
 ∃ f fd,mg x=some (.ref f)∧PySem.W.keepIn K (.ref f)=true∧Binds K fd ps []∧FnOk P w K mg base CX0 k f fd ps sp
theorem pe_def {x:Str} {k:Nat} {ps:List Str} {sp:Sp} {p pos:Pos} {e:Expr} {es:List Expr} {t:TA} (D:Def X.prog X.w X.K X.mg X.base x k ps sp) (hr:Room k X.A) (hg:Gl X x) (ha:PA X (e::es) t)
  (hdb:(x==("__debug__":Str))=false:=by decide) (he:starEach (e::es) X.env=(false,eval e X.env)::starEach es X.env:=by rfl) (hpl:(backTo pos (starEach es X.env)).any (·.1)=false:=by rfl) :
  PE X (.Call (.Name x p) (e::es) [] pos) (tCall sp [] E0 t):=by
 obtain⟨f,fd,hm,hk,hb,F⟩:=D
 exact pe_call F hr hg hm hk hb .nil pass0 ha hdb he hpl
structure FunAt (K:PySem.W.Frag) (mg:Str→Option Value) (x:Str) (st:Stmt) (ps:List Str):Prop where
 ex:∃ f fd,Fun K x x st f fd∧mg x=some (.ref f)∧Binds K fd ps []
theorem FunAt.mk' {P:Program} {w:World} {K:PySem.W.Frag} {mg:Str→Option Value} {base:Heap} {x:Str} {st:Stmt} {N ps:List Str} {k:Nat} {sp:Sp} (F:FunAt K mg x st ps) (S:FnScope N ps (defScope st)) (len:∀ vs H Q E,sp vs H Q E→vs.length=ps.length)
  (hbody:∀ (f:Addr) (cdv:Value) (A:Around) (outer:List Env) (s:Shared) (H:Hp) (vs:List V) (Q:VK) (E:XK),Room k (A.deeper (envOfC x (defScope st) s.heap.objs.size f cdv))→sp vs H Q E→
   ∃ t,PSs (cxOf CX0 P w K mg base N x (defScope st) f cdv A outer s H E).nox (defBody st) t∧t {nx:=fun _ H'=>Q .non H',rt:=Q} (start N vs) H):Def P w K mg base x (k+1) ps sp:=by
 obtain⟨f,fd,Fn,hm,hb⟩:=F.ex
 exact⟨f,fd,hm,Fn.kp,hb,Fn.ok S len (hbody f)⟩
theorem noxe {X:Cx}:∀ v s,¬ (X.nox).xe v s:=fun _ _ z=>z
def SameX (p:Addr) (H H':Hp):Prop:=∀ b o,b≠p→H b=some o→H' b=some o
theorem SameX.trans {p:Addr} {H H1 H2:Hp} (a:SameX p H H1) (b:SameX p H1 H2):SameX p H H2:=fun c o n h=>b c o n (a c o n h)
theorem SameX.refl (p:Addr) (H:Hp):SameX p H H:=fun _ _ _ h=>h
theorem SameX.upd (p:Addr) (H:Hp) (o:HO):SameX p H (upd H p o):=fun b u n h=>by rw [upd_ne n]; exact h
theorem same_new {H:Hp} {p:Addr} (h:H p=none) (o:HO):Same H (upd H p o):=fun b u e=>by rw [upd_ne (ne_of_none e h)]; exact e
theorem Same.x {p:Addr} {H H':Hp} (a:Same H H'):SameX p H H':=fun b o _ h=>a b o h
end
theorem SameX.same {p:Addr} {H H1 H2:Hp} (a:SameX p H H1) (b:Same H1 H2):SameX p H H2:=fun c o n h=>b c o (a c o n h)
theorem SameX.free {p:Addr} {H H':Hp} (e:SameX p H H') {l:Addr} (n:l≠p) (h:H' l=none):H l=none:=by
 cases q:H l with
 | none=>rfl
 | some o=>rw [e l o n q] at h; cases h
theorem atI_int {α:Type} {xs:List α} {i:Int} {x:α} (h0:0≤i) (h:xs[i.toNat]? = some x):atI xs i=some x:=by
 have:=atI_nat h
 rwa [Int.toNat_of_nonneg h0] at this
theorem seqIx {n:Nat} {i:Int} (h0:0≤i) (h1:i<n):seqIndex? i n=some i.toNat:=by
 unfold seqIndex?
 simp [show ¬ (i<0) by omega,h0,h1]
structure CompSc (n:Nat) (N' N:List Str) (osc scope:Scope):Prop where
 kind:scope.kind=.function
 names:∀ x∈scope.names,x.2=.local→scope.names.lookup x.1=some .local
 cell:∀ x∈scope.names,x.2≠.cell
 free:∀ x∈scope.names,x.2=.free→osc.names.lookup x.1=some .cell∨osc.names.lookup x.1=some .free
 nd:N'.Nodup
 len:N'.length=n+N.length
 look:lookOk n N' N scope.names=true
theorem CompSc.at {X:Cx} {n:Nat} {N':List Str} {scope:Scope} (h:CompSc n N' X.N X.env.scope scope):CompScope n N' X scope:=⟨h.kind,h.names,h.cell,h.free,h.nd,h.len,h.look⟩
end L2
set_option maxHeartbeats 4000000
namespace L2
open PySem PySem.Spec PyProof.Rows
mutual
inductive RdV (R:Addr→Prop) (H:Hp):V→PyData→Prop where
 | non:RdV R H .non .none
 | bl (b:Bool):RdV R H (.bl b) (.bool b)
 | int (i:Int):RdV R H (.int i) (.int i)
 | str (x:Str):RdV R H (.str x) (.str x)
 | lst {a:Addr} {xs:List V} {ds:List PyData}:R a→H a=some (.lst xs)→RdA R H xs ds→RdV R H (.ref a) (.list ds)
 | tup {a:Addr} {xs:List V} {ds:List PyData}:R a→H a=some (.tup xs)→RdA R H xs ds→RdV R H (.ref a) (.tuple ds)
inductive RdA (R:Addr→Prop) (H:Hp):List V→List PyData→Prop where
 | nil:RdA R H [] []
 | cons {x:V} {xs:List V} {d:PyData} {ds:List PyData}:RdV R H x d→RdA R H xs ds→RdA R H (x::xs) (d::ds)
end
mutual
theorem RdV.mono {R R':Addr→Prop} {H H':Hp} (hR:∀ a,R a→R' a) (hH:∀ a o,R a→H a=some o→H' a=some o):∀ {x:V} {d:PyData},RdV R H x d→RdV R' H' x d
 | _,_,.non=>.non
 | _,_,.bl b=>.bl b
 | _,_,.int i=>.int i
 | _,_,.str x=>.str x
 | _,_,.lst r e z=>.lst (hR _ r) (hH _ _ r e) (RdA.mono hR hH z)
 | _,_,.tup r e z=>.tup (hR _ r) (hH _ _ r e) (RdA.mono hR hH z)
theorem RdA.mono {R R':Addr→Prop} {H H':Hp} (hR:∀ a,R a→R' a) (hH:∀ a o,R a→H a=some o→H' a=some o):∀ {xs:List V} {ds:List PyData},RdA R H xs ds→RdA R' H' xs ds
 | _,_,.nil=>.nil
 | _,_,.cons a b=>.cons (RdV.mono hR hH a) (RdA.mono hR hH b)
end
mutual
def tupOnly:PyData→Bool
 | .list _=>false
 | .tuple ds=>tupOnlyA ds
 | _=>true
def tupOnlyA:List PyData→Bool
 | []=>true
 | d::r=>tupOnly d&&tupOnlyA r
end
mutual
theorem RdV.monoT {R R':Addr→Prop} {H H':Hp} (hR:∀ a,R a→R' a) (hH:∀ a xs,H a=some (.tup xs)→H' a=some (.tup xs)):∀ {x:V} {d:PyData},tupOnly d=true→RdV R H x d→RdV R' H' x d
 | _,_,_,.non=>.non
 | _,_,_,.bl b=>.bl b
 | _,_,_,.int i=>.int i
 | _,_,_,.str x=>.str x
 | _,_,h,.lst r e z=>by simp [tupOnly] at h
 | _,_,h,.tup r e z=>.tup (hR _ r) (hH _ _ e) (RdA.monoT hR hH (by simpa [tupOnly] using h) z)
theorem RdA.monoT {R R':Addr→Prop} {H H':Hp} (hR:∀ a,R a→R' a) (hH:∀ a xs,H a=some (.tup xs)→H' a=some (.tup xs)):∀ {xs:List V} {ds:List PyData},tupOnlyA ds=true→RdA R H xs ds→RdA R' H' xs ds
 | _,_,_,.nil=>.nil
 | _,_,h,.cons a b=>by
  simp only [tupOnlyA,Bool.and_eq_true] at h
  exact .cons (RdV.monoT hR hH h.1 a) (RdA.monoT hR hH h.2 b)
end
section
variable {R:Addr→Prop} {H H':Hp} {v:V} {xs ys:List V} {ds es:List PyData} {d:PyData}
theorem RdA.same (hs:Same H H') (h:RdA R H xs ds):RdA R H' xs ds:=h.mono (fun _ r=>r) fun a o _ e=>hs a o e
theorem RdV.list_inv (h:RdV R H v (.list ds)):∃ a xs,v=.ref a∧R a∧H a=some (.lst xs)∧RdA R H xs ds:=by cases h with | lst r e z=>exact⟨_,_,rfl,r,e,z⟩
theorem RdV.tuple_inv (h:RdV R H v (.tuple ds)):∃ a xs,v=.ref a∧R a∧H a=some (.tup xs)∧RdA R H xs ds:=by cases h with | tup r e z=>exact⟨_,_,rfl,r,e,z⟩
theorem RdV.str_inv {x:Str} (h:RdV R H v (.str x)):v=.str x:=by cases h; rfl
theorem RdA.length:∀ {xs:List V} {ds:List PyData},RdA R H xs ds→xs.length=ds.length
 | _,_,.nil=>rfl
 | _,_,.cons _ t=>by rw [List.length_cons,List.length_cons,RdA.length t]
theorem RdA.getV:∀ {xs:List V} {ds:List PyData} {i:Nat} {x:V},RdA R H xs ds→xs[i]? = some x→∃ d,ds[i]? = some d∧RdV R H x d
 | _,_,_,_,.nil,h=>by simp at h
 | _,_,0,_,.cons a t,h=>by simp at h; subst h; exact⟨_,rfl,a⟩
 | _,_,i+1,_,.cons a t,h=>by simpa using RdA.getV (i:=i) t (by simpa using h)
theorem RdA.append:∀ {xs ys:List V} {ds es:List PyData},RdA R H xs ds→RdA R H ys es→RdA R H (xs++ys) (ds++es)
 | _,_,_,_,.nil,h=>h
 | _,_,_,_,.cons a t,h=>.cons a (RdA.append t h)
theorem RdA.snoc (h:RdA R H xs ds) (a:RdV R H v d):RdA R H (xs++[v]) (ds++[d]):=h.append (.cons a .nil)
theorem RdA.strs:∀ ws:List Str,RdA R H (ws.map V.str) (ws.map PyData.str)
 | []=>.nil
 | x::r=>.cons (.str x) (RdA.strs r)
theorem RdA.strs_inv:∀ {ws:List Str} {xs:List V},RdA R H xs (ws.map PyData.str)→xs=ws.map V.str
 | [],_,.nil=>rfl
 | _::_,_,.cons a t=>by rw [RdV.str_inv a,RdA.strs_inv t]; rfl
theorem RdA.two (h:RdA R H xs [d,e]):∃ x y,xs=[x,y]∧RdV R H x d∧RdV R H y e:=by
 cases h with | cons a t=>cases t with | cons b t=>cases t; exact⟨_,_,rfl,a,b⟩
theorem RdA.three {f:PyData} (h:RdA R H xs [d,e,f]):∃ x y z,xs=[x,y,z]∧RdV R H x d∧RdV R H y e∧RdV R H z f:=by
 cases h with | cons a t=>cases t with | cons b t=>cases t with | cons c t=>cases t; exact⟨_,_,_,rfl,a,b,c⟩
end
inductive StrConsts:List Expr→List Str→Prop where
 | nil:StrConsts [] []
 | cons {x:Str} {j:Nat} {pos:Pos} {es:List Expr} {ws:List Str}:StrConsts es ws→StrConsts (.Constant (.str x) j pos::es) (x::ws)
def tStrs (ws:List Str):TA:=fun _ H Q=>Q (ws.map V.str) H
theorem pa_strs {X:Cx} {es:List Expr} {ws:List Str} (h:StrConsts es ws):PA X es (tStrs ws):=by
 induction h with
 | nil=>exact pa_nil
 | cons h ih=>
  rename_i x j pos es ws
  intro pos' pins s σ H Q I hq
  exact pa_cons (te:=tC (.str x)) (t:=tStrs ws) pe_str ih rfl pos' pins s σ H Q I hq
section
variable {X:Cx}
theorem visL {sc:Scope} {x:Str} (h:sc.names.lookup x=some .local):Vis sc x:=.inl h
theorem visC {sc:Scope} {x:Str} (h:sc.names.lookup x=some .cell):Vis sc x:=.inr (.inl h)
theorem visF {scope:Scope} {env:Env} {x:Str} (h:scope.names.lookup x=some .free):Vis (relabel scope env) x:=by
 have e:(relabel scope env).names.lookup x=_:=lookup_relabel
 rw [h] at e
 simp only [Option.map_some] at e
 split at e
 ·exact .inr (.inl e)
 ·exact .inr (.inr e)
theorem visO {scope:Scope} {env:Env} {x:Str} (h:scope.names.lookup x=some .local):Vis (relabel scope env) x:=.inl (lookup_relabel_local h)
theorem locO {scope:Scope} {env:Env} {x:Str} (h:scope.names.lookup x=some .local):Loc (relabel scope env) x:=.inl (lookup_relabel_local h)
theorem glO {scope:Scope} {env:Env} {x:Str} (h:scope.names.lookup x=some .globalImplicit):(relabel scope env).names.lookup x=some .globalImplicit:=by
 have e:(relabel scope env).names.lookup x=_:=lookup_relabel
 rw [h] at e
 exact e
theorem pq (i:Nat) {x:Str} {pos:Pos} (hv:Vis X.env.scope x) (hd:(x==("__debug__":Str))=false) (hcd:(x==("__classdict__":Str))=false) (hN:X.N[i]? = some x:=by rfl):PE X (.Name x pos) (tVar i):=pe_var hN hv hd hcd
end
section
variable {P:Program} {w:World} {A:Around} {E:Value→Shared→Prop}
theorem draw_lst {it l:Addr} {its:Array Value} (ne:l≠it) (n:Nat):∀ (i:Nat) (s:Shared) (Q:List Value→Shared→Prop),s.heap.IsListIter it l i→s.heap.IsList l its→i+n≤its.size→
  (∀ h',h'.IsListIter it l (i+n)→Heap.SameBut it s.heap h'→Q ((its.toList.drop i).take n) {s with heap:=h'})→wpAny (model P w) A (draw (.ref it) n) Q E s:=by
 induction n with
 | zero=>
  intro i s Q a _ _ q
  have q0:=q s.heap a (Heap.SameBut.refl ..)
  rw [List.take_zero] at q0
  exact wpAny_pure q0
 | succ n ih=>
  intro i s Q a b le q
  have lt:i<its.size:=by omega
  refine wpAny_bind (m:=pyNext (.ref it)) (wpAny_pyNext_list_item a b (x:=its[i]) (by simp [lt]) fun h1 a1 s1=>?_)
  refine wpAny_bind (wpAny_holding (ih (i+1) _ _ a1 (b.extBut s1.extBut ne) (by omega) fun h2 a2 s2=>?_))
  refine wpAny_pure ?_
  have q2:=q h2 (by rw [Nat.add_comm n 1,← Nat.add_assoc]; exact a2) (s1.trans s2)
  have e:its.toList.drop i=its[i]::its.toList.drop (i+1):=by simp [List.drop_eq_getElem_cons,lt]
  rwa [e,List.take_succ_cons] at q2
theorem unpack_lst {s:Shared} {l:Addr} {its:Array Value} {ts:List (Bool×(Value→Sem Unit))} {Q:Unit→Shared→Prop} (hh:A.handled=none) (hl:s.heap.IsList l its) (hn:ts.length=its.size) (hs:ts.findIdx? (·.1)=none)
  (q:∀ h',Heap.ExtBut s.heap.objs.size s.heap h'→wpAny (model P w) A (assignInOrder (ts.map (·.2)) its.toList) Q E {s with heap:=h'}):wpAny (model P w) A (unpack (.ref l) ts) Q E s:=by
 have ne:l≠s.heap.objs.size:=by
  obtain⟨o,e,_⟩:=hl
  exact Nat.ne_of_lt (Heap.lt_size e)
 unfold unpack
 rw [hs,hn]
 refine wpAny_bind (wpAny_holding ?_)
 unfold unpackItems notIterableAtAll
 refine wpAny_bind (wpAny_bind (wpAny_specialOf hl.typeIs slot_list_iter.lookup (wpAny_pure ?_)))
 simp only [Bool.false_eq_true,if_false]
 refine wpAny_bind (wpAny_holding (wpAny_pyIter_list hl ?_))
 refine wpAny_bind (wpAny_holding (draw_lst ne its.size 0 _ _ ⟨_,Heap.get?_push_size _ rfl,rfl,rfl⟩ (hl.push _) (by omega) fun h1 a1 s1=>?_))
 have all:(its.toList.drop 0).take its.size=its.toList:=by simp [List.take_of_length_le]
 rw [all,if_neg (by simp)]
 refine wpAny_bind (wpAny_holding (wpAny_pyNext_list_end hh a1 ((hl.push _).extBut s1.extBut ne) (by simp) fun h2 e2=>?_))
 simp only [Option.isSome_none,Bool.false_eq_true,if_false]
 exact wpAny_pure (q h2 fun b o nb e=>e2 b o nb (s1.extBut b o nb (Heap.get?_push_of_some _ e)))
end
section
variable {X:Cx} {pos:Pos}
def gSeq (K:PySem.W.Frag) (n:Nat) (t:TGs):TG:=fun v σ H Q=>∃ a xs,v=.ref a∧(SqL K H a xs∨SqT K H a xs)∧xs.length=n∧t xs σ H Q
theorem pg_seq {es:List Expr} {k:Nat} {t:TGs} {n:Nat} (hc:X.calm=true) (h:PGs X es t) (hn:(assignEach es X.env).length=n:=by rfl) (hst:(assignEach es X.env).findIdx? (·.1)=none:=by rfl):PG X (.Tuple es k pos) (gSeq X.K n t):=by
 intro pins s σ H v u Q I r hw
 obtain⟨a,xs,rfl,hq | hq,hl,hw⟩:=hw
 ·cases r
  obtain⟨its,rv,pl,hz⟩:=I.list hq
  rw [assign_Tuple]
  refine wpAny_bind (wpAny_standAt (unpack_lst (I.ok.hd hc) pl.isList (by simp [hn,← hl,rv.length]) hst fun h' hx=>?_))
  have I1:Inv X pins σ H {s with heap:=h'}:=I.kept (t':=s.toks) fun b o e=>hx b o (Nat.ne_of_lt (Heap.lt_size e)) e
  exact h pins _ σ H xs _ Q I1 (by simpa using rv) hw
 ·exact pg_tup hc h hn hst pins s σ H _ u Q I r ⟨a,xs,rfl,hq,hl,hw⟩
end
structure Loose (X:Cx) (pins:List (Addr×Obj)) (H:Hp) (b:Addr):Prop where
 un:H b=none
 new:b∈X.ex∨X.s₀.heap.get? b=none
 loc:b≠X.env.locals
 cel:∀ x c,X.env.cells.lookup x=some c→c≠b
 pin:∀ p∈X.pn++pins,p.1≠b
section
variable {X:Cx} {pins:List (Addr×Obj)} {σ:List (Option V)} {H:Hp} {s:Shared} {h':Heap}
theorem Inv.fly {t':Nat} {S:List Addr} (I:Inv X pins σ H s) (hS:∀ b∈S,Loose X pins H b) (kp:∀ b o,s.heap.get? b=some o→b∉S→b∉frs X.stack→h'.get? b=some o)
  (sl:∀ b o,s.heap.get? b=some o→b∈frs X.stack→∃ w,h'.get? b=some {o with slots:=w}):Inv X pins σ H {s with heap:=h',toks:=t'}:=by
 have nS:∀ b u,H b=some u→b∉S:=fun b u e z=>by rw [(hS b z).un] at e; cases e
 have nF:∀ b u,H b=some u→b∉frs X.stack:=fun b u e z=>by rw [I.stkFree b z] at e; cases e
 have neL:∀ b o,X.s₀.heap.get? b=some o→b≠X.env.locals:=fun b o e=>Nat.ne_of_lt (Nat.lt_of_lt_of_le (Heap.lt_size e) I.ok.above)
 have neC:∀ b o,X.s₀.heap.get? b=some o→b∉X.ex→b∉S:=fun b o e hx hb=>by
  rcases(hS b hb).new with z | z
  ·exact hx z
  ·rw [z] at e; cases e
 have stkL:∀ b,b∈frs X.stack→b≠X.env.locals→b∈X.fs:=fun b hb n=>(List.mem_cons.mp (I.stkSub b hb)).elim (fun z=>absurd z n) id
 have any:∀ b o,s.heap.get? b=some o→b∉S→∃ w,h'.get? b=some {o with slots:=w}:=fun b o e n=>by
  by_cases hb:b∈frs X.stack
  ·exact sl b o e hb
  ·exact⟨o.slots,kp b o e n hb⟩
 have cellK:∀ x c,X.env.cells.lookup x=some c→∀ v,s.heap.IsCell c v→h'.IsCell c v:=fun x c e v ⟨o,ho,hd⟩=>by
  obtain⟨w,q⟩:=any c o ho fun z=>(hS c z).cel x c e rfl
  exact⟨_,q,hd⟩
 refine⟨I.ok,I.os,I.bare,⟨fun b o e n hb hx=>?_,fun b o e n hb hx=>?_,fun b o e n hx=>I.base.free b o e n hx,fun b o e hx=>?_,I.base.tups,I.base.frzs,I.base.tbls⟩,?_,fun x c e=>?_,I.free,I.freeC,fun p hp=>?_,fun b u e=>?_,I.len⟩
 ·exact kp b o (I.base.keep b o e n hb hx) (neC b o e hx) fun z=>hb (stkL b z (neL b o e))
 ·obtain⟨w,e1⟩:=I.base.slot b o e n hb hx
  obtain⟨w',e2⟩:=any b _ e1 (neC b o e hx)
  exact⟨w',e2⟩
 ·obtain⟨o',e1⟩:=I.base.there b o e hx
  obtain⟨w,e2⟩:=any b o' e1 (neC b o e hx)
  exact⟨_,e2⟩
 ·obtain⟨m,⟨o,es,ep,ho,r⟩,hl⟩:=I.loc
  obtain⟨w,q⟩:=any _ o ho fun z=>(hS _ z).loc rfl
  refine⟨m,⟨_,es,ep,q,r⟩,fun i x v e1 e2 e3=>?_⟩
  obtain⟨u,r,l⟩:=hl i x v e1 e2 e3
  refine⟨u,r,?_⟩
  rcases l with l | ⟨k,c,e,z⟩
  ·exact .inl l
  ·exact .inr ⟨k,c,e,cellK x c e _ z⟩
 ·obtain⟨v,z⟩:=I.cell x c e
  exact⟨v,cellK x c e v z⟩
 ·obtain⟨e,n,ne,nf,d⟩:=I.pin p hp
  exact⟨kp p.1 p.2 e (fun z=>(hS p.1 z).pin p hp rfl) fun z=>nf (stkL _ z ne),n,ne,nf,d⟩
 ·refine(I.hok b u e).stay (fun c v hc q=>?_) (fun _ q=>q) fun _ _ q=>q
  rcases hc with z | z
  ·subst z; exact kp _ v q (nS _ u e) (nF _ u e)
  ·exact kp c v q (nS c _ z) (nF c _ z)
end
inductive Exc (h:Heap) (a:Addr) (cls:Value) (dx:Option Addr):Option Value→List Addr→Prop where
 | made {oe:Obj} {vs:Array Value} {a0:Value}:h.get? a=some oe→oe.cls=cls→oe.dict=dx→oe.data=.fields vs→vs[0]? = some a0→vs[1]? = some .none→Exc h a cls dx none [a]
 | ent {oe oT:Obj} {vs ts:Array Value} {a0 fl:Value} {T:Addr}:h.get? a=some oe→oe.cls=cls→oe.dict=dx→oe.data=.fields vs→vs[0]? = some a0→vs[1]? = some (.ref T)→T≠a→h.get? T=some oT→oT.data=.fields ts→ts[3]? = some fl→Exc h a cls dx (some fl) [a,T]
def XEk (p:Option Value→Addr→Prop) (X:Cx) (E:XK):Value→Shared→Prop:=fun e s=>∃ (a L:Addr) (cls:Value) (dx:Option Addr) (σ:St) (H:Hp) (fl:Option Value) (S:List Addr) (env0:Env) (rest:List Env),e=.ref a∧X.stack=env0::rest∧env0.frame=some L∧X.env.frame=some L∧
 Inv X [] σ H s∧Exc s.heap a cls dx fl S∧p fl L∧(∀ b∈S,Loose X [] H b)∧E cls dx H
def XE:Cx→XK→Value→Shared→Prop:=XEk fun _ _=>True
def XHeld:Cx→XK→Value→Shared→Prop:=XEk fun fl L=>fl=some (rawInt L)
def XFly:Cx→XK→Value→Shared→Prop:=XEk fun fl L=>fl=some .none
theorem XEk.imp {p q:Option Value→Addr→Prop} {X:Cx} {E:XK} {e:Value} {s:Shared} (h:XEk p X E e s) (k:∀ fl L,p fl L→q fl L):XEk q X E e s:=by
 obtain⟨a,L,cls,dx,σ,H,fl,S,env0,rest,h1,h2,h3,h4,h5,h6,h7,h8⟩:=h
 exact⟨a,L,cls,dx,σ,H,fl,S,env0,rest,h1,h2,h3,h4,h5,h6,k _ _ h7,h8⟩
theorem XHeld.xe {X:Cx} {E:XK} {e:Value} {s:Shared} (h:XHeld X E e s):XE X E e s:=XEk.imp h fun _ _ _=>trivial
theorem noteFrame_congr {e:Value} {env env':Env} (h:env.frame=env'.frame):noteFrame e env=noteFrame e env':=by
 unfold noteFrame PySem.frameOf
 rw [h]
section
variable {P:Program} {w:World} {H:Hp} {h:Heap} {a:Addr} {o:HO}
theorem ObjOk.there (x:ObjOk P w H h a o):∃ ob,h.get? a=some ob:=by
 induction o with
 | lst xs=>obtain⟨_,_,_,_,e⟩:=x; exact⟨_,e⟩
 | tup xs=>obtain⟨_,_,_,o,e,_⟩:=x; exact⟨_,e⟩
 | dK kvs=>obtain⟨_,_,_,_,o,_,_,e,_⟩:=x; exact⟨_,e⟩
 | dT kvs=>obtain⟨_,_,_,_,o,_,_,e,_⟩:=x; exact⟨_,e⟩
 | set S n=>obtain⟨o,_,_,_,e,_⟩:=x; exact⟨_,e⟩
 | ins C dx fs=>obtain⟨_,_,_,e,_⟩:=x; exact⟨_,e⟩
 | own y=>exact x
 | xd fs=>obtain⟨_,⟨o,_,_,e,_⟩,_⟩:=x; exact⟨_,e⟩
 | met f y=>exact⟨_,x⟩
 | rng lo hi=>obtain⟨_,_,_,e⟩:=x; exact⟨_,e⟩
 | frz o u ih=>exact⟨_,x.1⟩
 | tbl ps=>exact⟨_,x⟩
 | ext φ=>exact x.2.1
end
section
variable {X:Cx} {pins:List (Addr×Obj)} {σ:List (Option V)} {H:Hp} {s:Shared} {h':Heap}
theorem Inv.loose {b:Addr} (I:Inv X pins σ H s) (e:s.heap.get? b=none):Loose X pins H b:=by
 have no:∀ {c:Addr} {o:Obj},s.heap.get? c=some o→c≠b:=fun q z=>by rw [z,e] at q; cases q
 refine⟨?_,?_,?_,fun x c hc=>?_,fun p hp=>no (I.pin p hp).1⟩
 ·cases q:H b with
  | none=>rfl
  | some o=>
   obtain⟨ob,z⟩:=ObjOk.there (I.hok b o q)
   exact absurd rfl (no z)
 ·by_cases hx:b∈X.ex
  ·exact .inl hx
  ·refine .inr ?_
   cases q:X.s₀.heap.get? b with
   | none=>rfl
   | some o=>
    obtain⟨o',z⟩:=I.base.there b o q hx
    exact absurd rfl (no z)
 ·obtain⟨m,⟨o,_,_,ho,_⟩,_⟩:=I.loc
  exact(no ho).symm
 ·obtain⟨v,o,ho,_⟩:=I.cell x c hc
  exact no ho
theorem entD {M:Model} {A:Around} {EE:Value→Shared→Prop} {s:Shared} {g:Heap} {ev:Env} {outer:List Env} {L a:Addr} {oe:Obj} {vs:Array Value} {head:Value} {nx:Bool} {Q:Unit→Shared→Prop}
  (hfr:A.frames=some (ev::outer)) (hl:s.heap.FunFrames g (ev::outer)) (hf:ev.frame=some L) (he:s.heap.get? a=some oe) (hd:oe.data=.fields vs) (hz:1<vs.size)
  (k:∀ (h':Heap) (T:Addr) (ts:Array Value),(∀ b o,s.heap.get? b=some o→b≠a→b∉frs (ev::outer)→h'.get? b=some o)→(∀ b o,s.heap.get? b=some o→b∈frs (ev::outer)→∃ w,h'.get? b=some {o with slots:=w})→
   h'.get? a=some (Obj.mapFields (·.setIfInBounds 1 (.ref T)) oe)→s.heap.get? T=none→h'.get? T=some {cls:=.type "traceback",data:=.fields ts}→ts[3]? = some (rawInt L)→Q () {s with heap:=h'}) :
  wpAny M A (do let f ← frameOf ev; let pl ← entryPlaceOf L nx; let b ← EntryCells.newEntry head f .none (rawInt L) .none pl; setField (.ref a) 1 b) Q EE s:=by
 have na:a∉frs (ev::outer):=fun m=>by
  obtain⟨_,o,q,nf⟩:=hl.mem m
  rw [he] at q
  cases q
  exact nf vs hd
 refine wpAny_bind (wpAny_frameOf_fun hfr hl hf fun g1 sl=>wpAny_bind (wpAny_entryPlaceOf fun pl ip=>?_))
 unfold EntryCells.newEntry newFields
 refine wpAny_bind (wpAny_newObj_type ?_ (ip.sizeOk5 _ _ _ _ _))
 have e1:g1.get? a=some oe:=by rw [sl.2.1 a na]; exact he
 refine wpAny_setField (Heap.get?_push_of_some _ e1) hd hz ?_
 have lt:=Heap.lt_size e1
 have oth:∀ (u:Obj) (b:Addr),b≠a→((g1.push u).update a (Obj.mapFields (·.setIfInBounds 1 (Value.ref g1.objs.size)))).get? b=(g1.push u).get? b:=fun u b n=>Heap.get?_update_other _ _ (Ne.symm n)
 have nw:s.heap.get? g1.objs.size=none:=by
  cases q:s.heap.get? g1.objs.size with
  | none=>rfl
  | some o=>
   obtain⟨w,z⟩:=sl.2.2 _ o q
   exact absurd (Heap.lt_size z) (Nat.lt_irrefl _)
 refine k _ g1.objs.size _ (fun b o q n nf=>?_) (fun b o q m=>?_) (Heap.get?_update_self _ (Heap.get?_push_of_some _ e1) (Obj.isFreed_of_fields (Obj.data_mapFields hd _))) nw ((oth _ _ (Nat.ne_of_gt lt)).trans (Heap.get?_push_size _ rfl)) ?_
 ·rw [oth _ _ n]
  exact Heap.get?_push_of_some _ ((sl.2.1 b nf).trans q)
 ·obtain⟨w,z⟩:=sl.2.2 b o q
  exact⟨w,by rw [oth _ _ fun y=>na (y▸m)]; exact Heap.get?_push_of_some _ z⟩
 ·first
   | (simp; done)
   | (rcases ip with rfl | ⟨_,_,_,_,_,_,_,rfl⟩ <;> simp)
theorem XE.note {E:XK} {e:Value} {EE:Value→Shared→Prop} (h:XE X E e s):wpAny (model X.prog X.w) X.A (noteFrame e X.env) (fun _ s'=>XHeld X E e s') EE s:=by
 obtain⟨a,L,cls,dx,σ,H,fl,S,env0,rest,rfl,hs,hf0,hf,I,ex,hp,hS,hE⟩:=h
 rw [noteFrame_congr (hf.trans hf0.symm)]
 have hfr:X.A.frames=some (env0::rest):=by rw [I.ok.frames,hs]
 have put:∀ {s1:Shared} {oe:Obj} {vs:Array Value} {a0 head:Value} {nx:Bool},Inv X [] σ H s1→a∈S→s1.heap.get? a=some oe→oe.cls=cls→oe.dict=dx→oe.data=.fields vs→1<vs.size→vs[0]? = some a0→
   wpAny (model X.prog X.w) X.A (do let f ← frameOf env0; let pl ← entryPlaceOf L nx; let b ← EntryCells.newEntry head f .none (rawInt L) .none pl; setField (.ref a) 1 b) (fun _ s'=>XHeld X E (.ref a) s') EE s1:=by
  intro s1 oe vs a0 head nx I1 ha he hc hx hd hz h0
  have hl:s1.heap.FunFrames X.base (env0::rest):=by rw [← hs]; exact I1.stack
  refine entD hfr hl hf0 he hd hz fun h' T ts kp sl e1 nw eT e3=>?_
  rw [← hs] at kp sl
  have I2:Inv X [] σ H {s1 with heap:=h'}:=I1.fly (t':=s1.toks) hS (fun b o q n nf=>kp b o q (fun z=>n (z▸ha)) nf) sl
  have nT:T≠a:=fun z=>by rw [z,he] at nw; cases nw
  exact⟨a,L,cls,dx,σ,H,_,[a,T],env0,rest,rfl,hs,hf0,hf,I2,.ent e1 ((Obj.cls_mapFields _ _).trans hc) (by rw [← hx]; unfold Obj.mapFields; split <;> rfl) (Obj.data_mapFields hd _) (by rw [Array.getElem?_setIfInBounds_ne (by decide)]; exact h0) (by simp [hz]) nT eT rfl e3,rfl,fun b hb=>by
   rcases List.mem_cons.mp hb with rfl | hb
   ·exact hS _ ha
   ·rw [List.mem_singleton.mp hb]; exact I1.loose nw,hE⟩
 cases ex with
 | made he hc hx hd h0 h1=>
  unfold noteFrame
  simp only [hf0]
  refine wpAny_bind (wpAny_field he hd h1 ?_)
  rw [if_neg (by decide)]
  exact put I (by simp) he hc hx hd (Array.getElem?_eq_some_iff.mp h1).1 h0
 | @ent oe oT vs ts a0 fl T he hc hx hd h0 h1 hTa hT hdT h3=>
  by_cases hb:(fl==rawInt L)=true
  ·obtain rfl:=eq_of_beq hb
   exact wpAny_noteFrame_againW (base:=PySem.W.hideAll s.heap [T]) hf0 ⟨oe,vs,T,oT,ts,he,⟨hc,h0⟩,hd,h1,PySem.W.hideAll_none _ (by simp),hTa,hT,hdT,h3⟩ ⟨a,L,cls,dx,σ,H,_,_,env0,rest,rfl,hs,hf0,hf,I,.ent he hc hx hd h0 h1 hTa hT hdT h3,rfl,hS,hE⟩
  ·have h3s:3<ts.size:=(Array.getElem?_eq_some_iff.mp h3).1
   unfold noteFrame
   simp only [hf0]
   refine wpAny_bind (wpAny_field he hd h1 ?_)
   rw [if_pos (show (Value.ref T != Value.none)=true from by simp)]
   refine wpAny_bind (wpAny_field hT hdT h3 ?_)
   rw [if_neg hb]
   refine wpAny_bind (wpAny_setField hT hdT h3s ?_)
   have other:∀ b,b≠T→(s.heap.update T (Obj.mapFields (·.setIfInBounds 3 Value.none))).get? b=s.heap.get? b:=fun b n=>Heap.get?_update_other _ _ (Ne.symm n)
   have nT:∀ b∈frs X.stack,b≠T:=fun b hb z=>by
    obtain⟨_,o',e',nf⟩:=I.stack.mem hb
    rw [z,hT] at e'; cases e'
    exact nf ts hdT
   have I1:=I.fly (t':=s.toks) (h':=s.heap.update T (Obj.mapFields (·.setIfInBounds 3 Value.none))) hS (fun b o q n _=>by rw [other b (fun z=>n (by simp [z]))]; exact q) fun b o q hb=>⟨o.slots,by rw [other b (nT b hb)]; exact q⟩
   exact put I1 (by simp) ((other a (Ne.symm hTa)).trans he) hc hx hd (Array.getElem?_eq_some_iff.mp h1).1 h0
end
section
variable {X:Cx} {E:XK} {e:Value} {s:Shared} {EE:Value→Shared→Prop} {M:Model}
theorem XEk.setFl {p:Option Value→Addr→Prop} {A:Around} {f:Option Addr} (h:XEk p X E e s) (hp:∀ fl L,p fl L→fl≠none) :
  wpAny M A (setFlight e f) (fun _ s'=>XEk (fun fl _=>fl=some (f.elim Value.none fun f=>rawInt f)) X E e s') EE s:=by
 obtain⟨a,L,cls,dx,σ,H,fl,S,env0,rest,rfl,hs,hf0,hf,I,ex,hp',hS,hE⟩:=h
 cases ex with
 | made=>exact absurd rfl (hp _ _ hp')
 | @ent oe oT vs ts a0 fl T he hc hx hd h0 h1 hTa hT hdT h3=>
  have h3s:3<ts.size:=(Array.getElem?_eq_some_iff.mp h3).1
  unfold setFlight
  refine wpAny_bind (wpAny_field he hd h1 ?_)
  rw [if_pos (show (Value.ref T != Value.none)=true from by simp)]
  refine wpAny_setField hT hdT h3s ?_
  have other:∀ b,b≠T→(s.heap.update T (Obj.mapFields (·.setIfInBounds 3 (f.elim Value.none fun f=>rawInt f)))).get? b=s.heap.get? b:=fun b n=>Heap.get?_update_other _ _ (Ne.symm n)
  have self:=Heap.get?_update_self (Obj.mapFields (·.setIfInBounds 3 (f.elim Value.none fun f=>rawInt f))) hT (Obj.isFreed_of_fields (Obj.data_mapFields hdT _))
  have I':=I.fly (t':=s.toks) (h':=s.heap.update T (Obj.mapFields (·.setIfInBounds 3 (f.elim Value.none fun f=>rawInt f)))) hS (fun b o q n _=>by rw [other b (fun z=>n (by simp [z]))]; exact q) fun b o q hb=>by
   have n:b≠T:=fun z=>by
    obtain⟨_,o',e',nf⟩:=I.stack.mem hb
    rw [z,hT] at e'; cases e'
    exact nf ts hdT
   exact⟨o.slots,by rw [other b n]; exact q⟩
  exact⟨a,L,cls,dx,σ,H,_,_,env0,rest,rfl,hs,hf0,hf,I',.ent ((other a (Ne.symm hTa)).trans he) hc hx hd h0 h1 hTa self (Obj.data_mapFields hdT _) (by simp [h3s]),rfl,hS,hE⟩
theorem XHeld.land {A:Around} (h:XHeld X E e s):wpAny M A (setFlight e none) (fun _ s'=>XFly X E e s') EE s:=
 wpAny_mono (XEk.setFl (f:=none) h fun fl L z=>by rw [z]; simp) (fun _ _ z=>z) fun _ _ z=>z
theorem XFly.land {A:Around} (h:XFly X E e s):wpAny M A (setFlight e none) (fun _ s'=>XFly X E e s') EE s:=
 wpAny_mono (XEk.setFl (f:=none) h fun fl L z=>by rw [z]; simp) (fun _ _ z=>z) fun _ _ z=>z
theorem XHeld.hold {A:Around} {env:Env} (hfr:env.frame=X.env.frame) (h:XHeld X E e s):wpAny M A (setFlight e env.frame) (fun _ s'=>XHeld X E e s') EE s:=by
 obtain⟨a,L,_,_,_,_,_,_,_,_,_,_,_,hf,_⟩:=id h
 rw [hfr,hf]
 refine wpAny_mono (XEk.setFl (f:=some L) h fun fl L z=>by rw [z]; simp) (fun _ s' z=>?_) fun _ _ z=>z
 obtain⟨a',L',cls,dx,σ,H,fl,S,env0,rest,h1,h2,h3,h4,h5,h6,h7,h8⟩:=z
 obtain rfl:L=L':=Option.some.inj (hf.symm.trans h4)
 exact⟨a',L,cls,dx,σ,H,fl,S,env0,rest,h1,h2,h3,h4,h5,h6,h7,h8⟩
theorem XHeld.hasTb {Q:Value→Shared→Prop} {A:Around} (h:XHeld X E e s) (q:∀ v,(v==Value.none)=false→Q v s):wpAny M A (field e 1) Q EE s:=by
 obtain⟨a,L,cls,dx,σ,H,fl,S,env0,rest,rfl,hs,hf0,hf,I,ex,hp',hS,hE⟩:=h
 cases ex with
 | made=>cases hp'
 | ent he hc hx hd h0 h1=>exact wpAny_field he hd h1 (q _ (by simp))
theorem XHeld.back {A:Around} {env:Env} (hfr:env.frame=X.env.frame) (h:XHeld X E e s):cameBackBy M A env (XE X E) e s:=by
 unfold cameBackBy
 refine wpAny_bind (h.hasTb fun v hv=>?_)
 rw [hv]
 simp only [Bool.false_eq_true,if_false]
 exact wpAny_mono (h.hold hfr) (fun _ _ z=>z.xe) fun _ _ z=>z
theorem XHeld.passAny {α:Type} {A:Around} {env:Env} {what:String} {Q:α→Shared→Prop} (h:XHeld X E e s) (k:∀ s',XE X E e s'→EE e s'):wpAny M A (PySem.passOn what e env:Sem α) Q EE s:=by
 unfold PySem.passOn
 refine wpAny_bind (h.hasTb fun v hv=>?_)
 rw [hv]
 simp only [Bool.false_eq_true,if_false]
 exact wpAny_bind (wpAny_mono (XEk.setFl (f:=env.frame) h fun fl L z=>by rw [z]; simp) (fun _ s' z=>wpAny_throw (k s' (XEk.imp z fun _ _ _=>trivial))) fun _ _ z=>z)
theorem passes_xe:PassesOwn (model X.prog X.w) X.A X.env (XE X E):=fun e s h=>by
 unfold notedBy
 exact wpAny_mono h.note (fun _ s' z=>z.back rfl) fun _ _ z=>z
theorem XE.leave (h:XE X E e s):wpAny (model X.prog X.w) X.A (leaving X.env e) (fun _ s'=>XFly X E e s') EE s:=by
 unfold leaving
 exact wpAny_bind (wpAny_mono h.note (fun _ s' z=>z.land) fun _ _ z=>z)
end
def CX1 (P:Program) (w:World):CXT:=fun outer H s E e s'=>∃ (a:Addr) (cls:Value) (dx:Option Addr) (H':Hp) (S:List Addr),e=.ref a∧s'.os=s.os∧AllBare s'.gens∧Un (frs outer) [] H H' s.heap s'.heap∧HOk P w H' s'.heap∧Exc s'.heap a cls dx (some .none) S∧(∀ b∈S,H' b=none∧s.heap.get? b=none)∧E cls dx H'
def Framed (X:Cx):Prop:=∃ (L:Addr) (env0:Env) (rest:List Env),X.stack=env0::rest∧env0.frame=some L∧X.env.frame=some L
abbrev Cx.exc (X:Cx) (E:XK):Cx:=X.wish (XE X E)
theorem passes1 {X:Cx} {E:XK} (fr:Framed X):Passes (CX1 X.prog X.w) (X.exc E) E:=by
 intro pins σ H s e s' I h
 obtain⟨a,cls,dx,H',S,rfl,ho,hb,un,hok,ex,hS,hE⟩:=h
 obtain⟨L,env0,rest,h1,h2,h3⟩:=fr
 have I0:Inv X pins σ H s:=I.unwish
 have I1:Inv X [] σ H s:=I0.pins_of fun p hp=>by simp at hp
 have I2:Inv X [] σ H' s':=I1.call' (ch:=[]) ho un hok hb fun b z=>by simp at z
 refine⟨a,L,cls,dx,σ,H',_,S,env0,rest,rfl,h1,h2,h3,I2,ex,trivial,fun b z=>?_,hE⟩
 obtain⟨u,n⟩:=hS b z
 obtain⟨_,l2,l3,l4,l5⟩:=I1.loose n
 exact⟨u,l2,l3,l4,l5⟩
theorem framed_of {CX:CXT} {P:Program} {w:World} {K:PySem.W.Frag} {mg:Str→Option Value} {base:Heap} {N:List Str} {qual:Str} {scope:Scope} {f:Addr} {cd:Value} {A:Around} {outer:List Env} {s:Shared} {H:Hp} {E:XK}:Framed (cxOf CX P w K mg base N qual scope f cd A outer s H E):=⟨_,_,_,rfl,rfl,rfl⟩
theorem Fun.okE {P:Program} {w:World} {K:PySem.W.Frag} {mg:Str→Option Value} {base:Heap} {x qual:Str} {st:Stmt} {f:Addr} {fd:FuncData} {N ps:List Str} {k:Nat} {sp:Sp} (F:Fun K x qual st f fd) (S:FnScope N ps (defScope st)) (len:∀ vs H Q E,sp vs H Q E→vs.length=ps.length)
  (hbody:∀ (cdv:Value) (A:Around) (outer:List Env) (s:Shared) (H:Hp) (vs:List V) (Q:VK) (E:XK),Room k (A.deeper (envOfC qual (defScope st) s.heap.objs.size f cdv))→sp vs H Q E→
   ∃ t,PSs ((cxOf (CX1 P w) P w K mg base N qual (defScope st) f cdv A outer s H E).exc E) (defBody st) t∧t {nx:=fun _ H'=>Q .non H',rt:=Q} (start N vs) H):FnOk P w K mg base (CX1 P w) (k+1) f fd ps sp:=by
 obtain⟨oc,od,kV,doc,pm,an,cdv,ct,osl,rfl,lk,hcd⟩:=F.ex
 refine fn_of lk hcd S len fun A outer s H vs Q E hr hsp=>?_
 obtain⟨t,h,q⟩:=hbody cdv A outer s H vs Q E hr hsp
 refine⟨t,fun pins s1 σ H1 D I hw=>?_,q⟩
 refine wpAny_mono (h pins s1 σ H1 D (I.wish _) hw) (fun fl s2 z=>z.unwish) fun e s2 z=>?_
 refine wpAny_mono z.leave (fun _ s3 z3=>?_) fun _ _ z=>z
 obtain⟨a,L,cls,dx,σ',H',fl,S',env0,rest,rfl,hs,hf0,hf,I',ex,hp',hS,hE⟩:=z3
 obtain rfl:fl=some .none:=hp'
 refine⟨a,cls,dx,H',S',rfl,I'.os,I'.bare,I'.base,I'.hok,ex,fun b hb=>⟨(hS b hb).un,?_⟩,hE⟩
 rcases(hS b hb).new with z | z
 ·exact absurd (show b∈([]:List Addr) from z) (by simp)
 ·exact z
abbrev mroVE:List Value:=[.type "ValueError",.type "Exception",.type "BaseException",.type "object"]
def ExcCls (K:PySem.W.Frag) (mg:Str→Option Value) (x:Str) (C:Addr):Prop:=∀ h:Heap,K.In h→OwnCls x C mroVE "ValueError.__new__" mg h
def tRaise (C:Addr) (E:XK) (t:TA):TS:=fun _ σ H=>t σ H fun vs H1=>vs.length≤sizeLine∧E (.ref C) none H1
theorem ps_raise {X:Cx} {E:XK} {x:Str} {C:Addr} {np cpos pos:Pos} {e:Expr} {es:List Expr} {t:TA} (fr:Framed X) (hc:X.calm=true) (O:ExcCls X.K X.mg x C) (hg:Gl X x) (ha:PA (X.exc E) (e::es) t)
  (hdb:(x==("__debug__":Str))=false:=by decide) (he:starEach (e::es) X.env=(false,eval e X.env)::starEach es X.env:=by rfl) (hpl:(backTo cpos (starEach es X.env)).any (·.1)=false:=by rfl) :
  PS (X.exc E) (.Raise (some (.Call (.Name x np) (e::es) [] cpos)) none pos) (tRaise C E t):=by
 intro pins s σ H D I h
 have O0:=O X.base I.ok.mod.kin
 obtain⟨bm,N,nm,q,bs,hdct,sn,sub,ab,col,dd,k0,k1,k2,k3,k5,mN,hC,hN,hni,T⟩:=O0.obj
 refine wpAny_Raise_call_subU (C:=C) (bm:=bm) (nm:=nm) (q:=q) (N:=N) (bs:=bs) (hdct:=hdct) (sn:=sn) (sub:=sub) (ab:=ab) (col:=col) (dd:=dd) (k0:=k0) (k1:=k1) (k2:=k2) (k3:=k3) (k5:=k5) (mN:=mN)
  PySem.F.excBase_ValueError (by decide +kernel) PySem.F.excBase_ValueError (T.hasType (by decide +kernel)) (I.ok.hd hc) (by rw [show (X.exc E).env=X.env from rfl,he]; show (false||(backTo cpos (starEach es X.env)).any (·.1))=false; rw [hpl]; rfl) hni (ld_glob I hg O0.bound ⟨rfl,?_⟩ hdb)
 have h1:=ha cpos pins s σ H _ I h
 rw [show (X.exc E).env=X.env from rfl,he] at h1 ⊢
 refine Calls.evalArgs_plain (wpAny_mono h1 (fun vs s2 z=>?_) fun _ _ z=>z)
 obtain⟨ws,H2,I2,rv,hl,hE⟩:=z
 have hk:∀ b o,X.base.get? b=some o→s2.heap.get? b=some o:=I2.bk
 refine⟨rfl,by rw [← rv.length]; exact hl,?_,?_,?_,fun h' a M=>?_⟩
 ·exact hk _ _ hC
 ·exact hN.keeps hk
 ·exact T.keeps hk
 ·obtain⟨tt,g1,g2,g3⟩:=M.there
  obtain⟨L,env0,rest,e1,e2,e3⟩:=fr
  have I3:Inv X [] σ H2 s2:=I2.unwish.pins_of fun p hp=>by simp at hp
  exact⟨a,L,.ref C,none,σ,H2,none,[a],env0,rest,rfl,e1,e2,e3,I3.kept (t':=s2.toks) M.keeps,.made g1 rfl rfl rfl rfl rfl,trivial,fun b hb=>by rw [List.mem_singleton.mp hb]; exact I3.loose M.new,hE⟩
section
variable {X:Cx} {n:Nat} {N':List Str} {scope:Scope} {elt tg iter:Expr} {pos:Pos} {pins:List (Addr×Obj)} {σ:St} {H2:Hp} {s2:Shared} {cl:List (Str×Addr)}
theorem comp_fails {E0:XK} {C:Addr} {fp:List Addr} {x:Value} {s':Shared} (I2:Inv X pins σ H2 s2) (f2:∀ b∈fp,FpOk X pins H2 b) (fr:Framed X) (h:XHeld (cxComp X N' scope cl C fp s2 H2) E0 x s') :
  ∃ m,s'.heap.Ns C m∧∀ h',Heap.SameBut C s'.heap h'→∀ cenv:Env,cenv.locals=C→wpAny (model X.prog X.w) X.A (PySem.passOn "comprehension.variables-let-go" x cenv:Sem Value) (fun _ _=>False) (XE X E0) {s' with heap:=h'}:=by
 obtain⟨a,L,cls,dx,σ',H',fl,S,env0,rest,rfl,hs,hf0,hf,I',ex,hp,hS,hE⟩:=h
 obtain⟨m,hn,_⟩:=I'.loc
 refine⟨m,hn,fun h' sb cenv hc=>?_⟩
 have I0:Inv X [] σ H2 s2:=I2.pins_of fun p hp=>by simp at hp
 have un:Un (frs X.stack) fp H2 H' s2.heap s'.heap:=I'.base
 have IX:Inv X [] σ H' s':=I0.call' (ch:=fp) I'.os un I'.hok I'.bare fun b hb=>by
  obtain⟨f0,f1,ff,f3,f4,f5⟩:=f2 b hb
  exact⟨f3,f1,f4,fun p hp=>f5 p (List.mem_append_left _ (by simpa using hp))⟩
 have lo:∀ b∈S,Loose X [] H' b:=fun b hb=>by
  obtain⟨u,nw,_,_,_⟩:=hS b hb
  rcases nw with z | z
  ·obtain⟨f0,f1,ff,f3,f4,f5⟩:=f2 b z
   exact⟨u,f3.imp id Heap.get?_none_of_le,Ne.symm (Ne.symm f1),f4,fun p hp=>f5 p (List.mem_append_left _ (by simpa using hp))⟩
  ·obtain⟨_,l2,l3,l4,l5⟩:=I0.loose z
   exact⟨u,l2,l3,l4,l5⟩
 have nC:∀ b∈S,b≠C:=fun b hb=>(hS b hb).loc
 have lC:s2.heap.objs.size≤C:=I'.ok.above
 have cL:Loose X [] H' C:=by
  obtain⟨_,l2,l3,l4,l5⟩:=I0.loose (Heap.get?_none_of_le lC)
  exact⟨I'.free,l2,l3,l4,l5⟩
 have nF:C∉frs X.stack:=fun z=>by
  obtain⟨_,o,e,_⟩:=I2.stack.mem z
  exact absurd (Heap.lt_size e) (Nat.not_lt.mpr lC)
 have IY:Inv X [] σ H' {s' with heap:=h'}:=IX.fly (t':=s'.toks) (S:=[C]) (fun b hb=>by rw [List.mem_singleton.mp hb]; exact cL) (fun b o q n1 _=>(sb.2 b (fun z=>n1 (by simp [z]))).trans q) fun b o q hb=>⟨o.slots,(sb.2 b (fun z=>nF (by rw [← z]; exact hb))).trans q⟩
 have exY:Exc h' a cls dx fl S:=by
  cases ex with
  | made he hc hx hd h0 h1=>exact .made ((sb.2 a (nC a (by simp))).trans he) hc hx hd h0 h1
  | @ent oe oT vs ts a0 fl T he hc hx hd h0 h1 hTa hT hdT h3=>exact .ent ((sb.2 a (nC a (by simp))).trans he) hc hx hd h0 h1 hTa ((sb.2 T (nC T (by simp))).trans hT) hdT h3
 have hX:XHeld X E0 (.ref a) {s' with heap:=h'}:=⟨a,L,cls,dx,σ,H',fl,S,env0,rest,rfl,hs,hf0,hf,IY,exY,hp,lo,hE⟩
 exact hX.passAny fun s'' z=>z
theorem comp_blockE {E0:XK} {it:Addr} {fp:List Addr} {tn:Nat→Heap→Prop} {J:It} {g:InBlock TG} {te:InBlock TE} {Q:VK} {E:Value→Shared→Prop}
  (hc:X.calm=true) (S:CompScope n N' X scope) (c1:∀ x c,cl.lookup x=some c→X.env.cells.lookup x=some c) (c2:∀ x∈scope.names,x.2=.free→∃ c,cl.lookup x.1=some c)
  (I2:Inv X pins σ H2 s2) (T:Turn X.prog X.w X.K tg J fp it tn) (st2:tn 0 s2.heap) (f2:∀ b∈fp,FpOk X pins H2 b)
  (hg:∀ cl C ex s H,PG ((cxComp X N' scope cl C ex s H).exc E0) tg (g cl C ex s H)) (he:∀ cl C ex s H,PE ((cxComp X N' scope cl C ex s H).exc E0) elt (te cl C ex s H))
  (cok:∀ cl C ex s Hc,CompOk n J (g cl C ex s Hc) (te cl C ex s Hc) σ H2 Q) :
  wpAny (model X.prog X.w) X.A (newList []) (fun acc s3=>wpAny (model X.prog X.w) X.A (newFunctionEnv scope X.env.globals cl [] X.env.qual none .none (some X.env)) (fun cenv s4=>
   codeAny (model X.prog X.w) X.A (.compStart (.ListComp elt [⟨tg,iter,[],0⟩] scope pos) 0 (.ref it) acc {cenv with scope:=relabel scope X.env})
    (fun r s'=>match r with | .ok _=>CompBack X pins σ Q acc cenv.locals s' | .error x=>XHeld (cxComp X N' scope cl cenv.locals fp s2 H2) E0 x s') s4) E s3) E s2:=by
 have fl:∀ b∈fp,@LT.lt Nat _ b s2.heap.objs.size:=fun b hb=>by
  obtain⟨o,e,_⟩:=T.obj _ _ st2 b hb
  exact Heap.lt_size e
 have frl:∀ b∈frs X.stack,@LT.lt Nat _ b s2.heap.objs.size:=fun b hb=>by
  obtain⟨_,o,ho,_⟩:=I2.stack.mem hb
  exact Heap.lt_size ho
 have celll:∀ x c,X.env.cells.lookup x=some c→@LT.lt Nat _ c s2.heap.objs.size:=fun x c e=>by
  obtain⟨v,q⟩:=I2.cell x c e
  exact q.lt
 refine wpAny_newObj_type (wpAny_newFunctionEnv S.cell (by intro y hy; simp at hy) (fun h1 hns1 hsb1=>?_) S.kind)
 dsimp only at hns1 hsb1 ⊢
 generalize hH2:s2.heap.push {cls:=.type "list",dict:=none,data:=.seq ([]:List Value).toArray}=G at hns1 hsb1 ⊢
 have hC:@Eq Nat G.objs.size (s2.heap.objs.size+1):=by rw [← hH2,Heap.size_push]
 have hDC:s2.heap.objs.size≠G.objs.size:=by show @Ne Nat _ _; omega
 have below:∀ b,@LT.lt Nat _ b s2.heap.objs.size→b≠G.objs.size∧b≠s2.heap.objs.size:=fun b hb=>⟨by show @Ne Nat _ _; omega,Nat.ne_of_lt hb⟩
 have old:∀ b o,s2.heap.get? b=some o→h1.get? b=some o:=fun b o e=>hsb1.extBut b o (below b (Heap.lt_size e)).1 (Heap.get?_push_of_some _ (hH2▸Heap.get?_push_of_some _ e))
 have hacc:h1.get? s2.heap.objs.size=some {cls:=.type "list",data:=.seq ([]:List Value).toArray 0}:=hsb1.extBut _ _ hDC (Heap.get?_push_of_some _ (hH2▸Heap.get?_push_size _ rfl))
 have hst1:tn 0 h1:=T.keep _ _ _ st2 fun b hb o e=>old b o e
 let X':=cxComp X N' scope cl G.objs.size fp s2 H2
 obtain⟨W,⟨m0,w0⟩,turn⟩:=cok cl G.objs.size fp s2 H2
 have hXe:X'.xe=X.xe:=rfl
 have stat:∀ {H':Hp} {ps:List (Addr×Obj)},(∀ b∈fp,H' b=none)→(∀ p∈ps,p.1=s2.heap.objs.size)→∀ b∈fp,FpOk X' ps H' b:=fun {H' ps} hn hp b hb=>by
  obtain⟨f0,f1,ff,f3,f4,f5⟩:=f2 b hb
  refine⟨hn b hb,(below b (fl b hb)).1,fun z=>?_,.inl hb,fun x c e z=>?_,fun p hp' z=>?_⟩
  ·exact(List.mem_cons.mp (I2.stkSub b z)).elim f1 ff
  ·exact f4 x c (c1 x c e) z
  ·have e:p.1=s2.heap.objs.size:=hp p (by simpa [X',cxComp] using hp')
   exact(below b (fl b hb)).2 (z.symm.trans e)
 have loop:∀ s3:Shared,s3={s2 with heap:=h1,toks:=s2.toks+([]:List (Str×Value)).length}→
   codeAny (model X.prog X.w) X.A (.compLoop (.ListComp elt [⟨tg,iter,[],0⟩] scope pos) 0 (.ref it) (.ref s2.heap.objs.size) (compEnvC scope cl G.objs.size X.env))
    (fun r s'=>match r with | .ok _=>CompBack X pins σ Q (.ref s2.heap.objs.size) G.objs.size s' | .error x=>XHeld (cxComp X N' scope cl G.objs.size fp s2 H2) E0 x s') s3:=by
  rintro s3 rfl
  have I3:=comp_inv (us:=[]) (k:=0) (s':={s2 with heap:=h1,toks:=s2.toks+([]:List (Str×Value)).length}) S c1 c2 I2 f2 fl rfl hC rfl rfl old ⟨_,hns1⟩ hacc
  refine codeAny_compLoop_any (fun m s'=>∃ i ys us k σ' H',Inv X' [(s2.heap.objs.size,{cls:=.type "list",data:=.seq (us:List Value).toArray k})] σ' H' s'∧Vals ys us∧tn i s'.heap∧(∀ b∈fp,H' b=none)∧ys.length≤sizeLine∧W i m ys σ' H') ?_ m0
   ⟨0,[],[],0,_,H2,I3,.nil,hst1,fun b hb=>(f2 b hb).1,Nat.zero_le _,w0⟩
  rintro m s' ⟨i,ys,us,k,σ',H',I',rv,st',fr',hlen,w'⟩
  rcases turn i m ys σ' H' w' with ⟨stop,q⟩ | ⟨go,hlt,step⟩
  ·refine thn (T.done X' rfl rfl rfl hc i _ s' σ' H' _ I' (stat fr' (by simp)) st' stop) fun r s4 ⟨hr,I4⟩=>?_
   subst hr
   show CompBack X pins σ Q (.ref s2.heap.objs.size) G.objs.size s4
   obtain⟨m1,hn1,_⟩:=I4.loc
   obtain⟨pD,nD,_,_,_⟩:=I4.pin (s2.heap.objs.size,{cls:=.type "list",data:=.seq us.toArray k}) (List.mem_append_right _ (by simp))
   have nD:H' s2.heap.objs.size=none:=nD
   have pD:s4.heap.get? s2.heap.objs.size=some {cls:=.type "list",data:=.seq us.toArray k}:=pD
   have hok:HOk X.prog X.w (upd H' s2.heap.objs.size (.lst ys)) s4.heap:=fun b u e=>by
    by_cases hb:b=s2.heap.objs.size
    ·subst hb
     rw [upd_same] at e; cases e
     exact⟨hlen,us,k,rv,pD⟩
    ·rw [upd_ne hb] at e
     exact(I4.hok b u e).stay (fun _ _ _ q=>q) (fun c q=>by rw [upd_ne (ne_of_none q nD)]; exact q) fun c xs q=>by rw [upd_ne (ne_of_none q nD)]; exact q
   have un:Un (frs X.stack) fp H2 (upd H' s2.heap.objs.size (.lst ys)) s2.heap s4.heap:=by
    have u0:=I4.base
    refine⟨u0.keep,u0.slot,fun b o e n hx=>?_,u0.there,fun b xs e=>?_,fun b o xs e=>?_,fun b ps e=>?_⟩
    ·rw [upd_ne (below b (Heap.lt_size e)).2]; exact u0.free b o e n hx
    ·have q:=u0.tups b xs e
     rw [upd_ne (ne_of_none q nD)]; exact q
    ·have q:=u0.frzs b o xs e
     rw [upd_ne (ne_of_none q nD)]; exact q
    ·obtain⟨more,q⟩:=u0.tbls b ps e
     exact⟨more,by rw [upd_ne (ne_of_none q nD)]; exact q⟩
   have IX:Inv X pins σ (upd H' s2.heap.objs.size (.lst ys)) s4:=I2.call' (ch:=fp) I4.os un hok I4.bare fun b hb=>by
    obtain⟨f0,f1,ff,f3,f4,f5⟩:=f2 b hb
    exact⟨f3,f1,f4,f5⟩
   have hG0:H' G.objs.size=none:=I4.free
   refine⟨s2.heap.objs.size,_,m1,rfl,IX,hn1,⟨by rw [upd_ne (Ne.symm hDC)]; exact hG0,fun z=>?_,fun z=>?_,.inr ?_,fun x c e z=>?_,fun p hp z=>?_⟩,q _ nD⟩
   ·have q1:@LT.lt Nat _ X.env.locals s2.heap.objs.size:=I2.lt
    have q2:@Eq Nat G.objs.size X.env.locals:=z
    omega
   ·have z':G.objs.size∈frs X.outer:=z
    obtain⟨_,o,ho,_⟩:=I2.funs.mem z'
    have q1:@LT.lt Nat _ G.objs.size s2.heap.objs.size:=Heap.lt_size ho
    omega
   ·have q1:=I2.sz
    show @LE.le Nat _ X.s₀.heap.objs.size G.objs.size
    omega
   ·have q1:=celll x c e
    have q2:@Eq Nat c G.objs.size:=z
    omega
   ·have q1:@LT.lt Nat _ p.1 s2.heap.objs.size:=Heap.lt_size (I2.pin p hp).1
    have q2:@Eq Nat p.1 G.objs.size:=z
    omega
  ·refine thn (T.item X' rfl rfl rfl hc i _ s' σ' H' _ I' (stat fr' (by simp)) st' go) fun r s4 ⟨u,hr,h4⟩=>?_
   subst hr
   show wpAny _ _ (letOwnedTupleGo tg (.ref it) u) _ _ s4
   refine thn h4 fun _ s5 ⟨x,H5,I5,r5,y5,st5,fr5⟩=>?_
   have I5':=I5.pinned (stat fr5 (by simp)) (T.obj _ _ st5)
   have w1:=hg cl G.objs.size fp s2 H2 _ s5 σ' H5 x u _ (I5'.wish _) r5 (step x H5 y5)
   refine wpAny_mono w1 (fun _ s6 ⟨σ6,H6,I6,q6⟩=>?_) fun v s hv=>wpAny_mono (XE.note (X:=cxComp X N' scope cl G.objs.size fp s2 H2) (E:=E0) hv) (fun _ _ z=>z) fun _ _ z=>z
   obtain⟨NN,q6,hNN⟩:=q6
   have w2:=he cl G.objs.size fp s2 H2 _ s6 σ6 H6 _ I6 q6
   refine wpAny_mono w2 (fun y s7 ⟨v,H7,I7w,r7,q7⟩=>?_) fun v s hv=>wpAny_mono (XE.note (X:=cxComp X N' scope cl G.objs.size fp s2 H2) (E:=E0) hv) (fun _ _ z=>z) fun _ _ z=>z
   have I7:=I7w.unwish
   obtain⟨m',hm',w7⟩:=hNN v H7 q7
   have pinD:=I7.pin (s2.heap.objs.size,{cls:=.type "list",data:=.seq us.toArray k}) (List.mem_append_right _ (List.mem_append_left _ (by simp)))
   obtain⟨pD,nD,lD,fD,_⟩:=pinD
   refine append_at (hsz:=by rw [List.size_toArray,← rv.length]; exact hlen) pD fun h8 hs8 hD8=>?_
   have nD:H7 s2.heap.objs.size=none:=nD
   have I8:Inv X' (pinsAt fp s5.heap) σ6 H7 {s7 with heap:=h8}:=by
    refine(I7.pins_of (pins':=pinsAt fp s5.heap) fun p hp=>I7.pin p (List.mem_append_right _ (List.mem_append_right _ hp))).turned (t':=s7.toks) (it:=s2.heap.objs.size) (fun b o hb e=>(hs8.2 b hb).trans e) nD lD (.inr (Nat.le_refl _)) (fun x c e z=>?_) fun p hp z=>?_
    ·have q1:=celll x c (c1 x c e)
     have q2:@Eq Nat c s2.heap.objs.size:=z
     omega
    ·have hp':p∈pinsAt fp s5.heap:=by simpa [X',cxComp] using hp
     have q1:=fl p.1 (of_pinsAt hp').1
     have q2:@Eq Nat p.1 s2.heap.objs.size:=z
     omega
   have I9:Inv X' [(s2.heap.objs.size,{cls:=.type "list",data:=.seq (us++[y]).toArray (k+1)})] σ6 H7 {s7 with heap:=h8}:=I8.pins_of fun p hp=>by
    have e:p=(s2.heap.objs.size,{cls:=.type "list",data:=.seq (us++[y]).toArray (k+1)}):=by simpa using hp
    subst e
    refine⟨by rw [hD8,List.push_toArray],nD,lD,fD,fun v z=>by cases z⟩
   refine⟨m',hm',i+1,ys++[v],us++[y],k+1,σ6,H7,I9,rv.append (.cons r7 .nil),T.keep _ _ _ st5 fun b hb o e=>?_,fun b hb=>?_,by rw [List.length_append,List.length_singleton]; omega,w7⟩
   ·exact(I8.pin (b,o) (List.mem_append_right _ (mem_pinsAt hb e))).1
   ·obtain⟨o,e,d⟩:=T.obj _ _ st5 b hb
    exact(I8.pin (b,o) (List.mem_append_right _ (mem_pinsAt hb e))).2.1
 exact codeAny_compStart_list (loop _ rfl) (T.self _ 0 _ _ _ hst1 (loop _ rfl))
theorem pe_compE {E0:XK} {wi:TI} {g:InBlock TG} {te:InBlock TE} (fr:Framed X) (hc:X.calm=true) (S:CompScope n N' X scope) (hi:PI (X.exc E0) tg iter wi)
  (hg:∀ cl C ex s H,PG ((cxComp X N' scope cl C ex s H).exc E0) tg (g cl C ex s H)) (he:∀ cl C ex s H,PE ((cxComp X N' scope cl C ex s H).exc E0) elt (te cl C ex s H))
  (hs:∀ x,foldedSetIterable iter X.env x=pure x:=by intro _; rfl):PE (X.exc E0) (.ListComp elt [⟨tg,iter,[],0⟩] scope pos) (tComp n wi g te):=by
 intro pins s σ H Q I h
 rw [eval_ListComp]
 obtain⟨cl,hcl,c1,c2⟩:=closure_ok (scope:=scope) (env:=X.env) fun x hx hf=>I.ok.has x.1 (S.free x hx hf)
 refine wpAny_comprehension_free (use:=none) rfl hs hcl S.kind S.names (thn (hi pins s σ H _ I h) fun v s1 h1=>thn h1 fun itv s2 h2=>?_)
 obtain⟨it,fp,tn,J,H2,e,I2w,T,st2,f2,cok⟩:=h2
 subst e
 have I2:=I2w.unwish
 refine wpAny_mono (comp_blockE (X:=X) (E0:=E0) (pos:=pos) (iter:=iter) (Q:=Q) (E:=(X.exc E0).xe) hc S c1 c2 I2 T st2 f2 hg he cok) (fun acc s3 h3=>wpAny_mono h3 (fun cenv s4 h4=>codeAny_mono h4 fun r s' hr=>?_) fun _ _ z=>z) fun _ _ z=>z
 cases r with
 | error e=>exact comp_fails I2 f2 fr hr
 | ok f=>
  obtain⟨D,H',m,rfl,I',hn,⟨f0,f1,ff,f3,f4,f5⟩,q⟩:=hr
  refine⟨m,hn,fun h' hs'=>⟨.ref D,H',Inv.wish ?_ _,rfl,q⟩⟩
  exact I'.turned (t':=s'.toks) (fun b o hb e=>(hs'.2 b hb).trans e) f0 f1 f3 f4 f5
theorem ps_setCompE {E0:XK} {wi:TI} {g:InBlock TG} {te:InBlock TE} {i:Nat} {x:Str} {pos' spos:Pos} (hN:X.N.Nodup) (hi0:X.N[i]? = some x) (hx:Loc X.env.scope x)
  (hsw:swapsWith (.ListComp elt [⟨tg,iter,[],0⟩] scope pos) (some (.Name x pos')) spos.line X.env=pure true)
  (fr:Framed X) (hc:X.calm=true) (S:CompScope n N' X scope) (hi:PI (X.exc E0) tg iter wi)
  (hg:∀ cl C ex s H,PG ((cxComp X N' scope cl C ex s H).exc E0) tg (g cl C ex s H)) (he:∀ cl C ex s H,PE ((cxComp X N' scope cl C ex s H).exc E0) elt (te cl C ex s H))
  (hs:∀ x,foldedSetIterable iter X.env x=pure x:=by intro _; rfl) (hf:X.fn x=true∨X.env.scope.names.lookup x=some .local:=by first | exact .inl rfl | exact .inr rfl | assumption) :
  PS (X.exc E0) (.Assign [.Name x pos'] (.ListComp elt [⟨tg,iter,[],0⟩] scope pos) spos) (tAsg (tComp n wi g te) (gName i)):=by
 intro pins s σ H D I h
 rw [exec_Assign_Name_used _ _ _ _ hsw]
 refine wpAny_bind (wpAny_standAt (wpAny_bind ?_))
 obtain⟨cl,hcl,c1,c2⟩:=closure_ok (scope:=scope) (env:=X.env) fun x hx hf=>I.ok.has x.1 (S.free x hx hf)
 show wpAny _ _ (do let _ ← comprehension (.ListComp elt [⟨tg,iter,[],0⟩] scope pos) scope X.env _ (newList []) false (eval iter X.env) (some (assign (.Name x pos') X.env))) _ _ s
 refine wpAny_bind (wpAny_mono (wpAny_comprehension_free (use:=some (assign (.Name x pos') X.env)) (Q:=fun _ s'=>SP (X.exc E0) pins D .next s') rfl hs hcl S.kind S.names
  (thn (hi pins s σ H _ I h) fun v s1 h1=>thn h1 fun itv s2 h2=>?_)) (fun _ s' hq=>wpAny_pure (wpAny_pure hq)) fun _ _ e=>e)
 obtain⟨it,fp,tn,J,H2,e,I2w,T,st2,f2,cok⟩:=h2
 subst e
 have I2:=I2w.unwish
 refine wpAny_mono (comp_blockE (X:=X) (E0:=E0) (pos:=pos) (iter:=iter) (E:=(X.exc E0).xe) (Q:=fun x H1=>gName i x σ H1 D.nx) hc S c1 c2 I2 T st2 f2 hg he cok) (fun acc s3 h3=>wpAny_mono h3 (fun cenv s4 h4=>codeAny_mono h4 fun r s' hr=>?_) fun _ _ z=>z) fun _ _ z=>z
 cases r with
 | error e=>exact comp_fails I2 f2 fr hr
 | ok f=>
  obtain⟨Dl,H',m,rfl,I',hn,⟨f0,f1,ff,f3,f4,f5⟩,q⟩:=hr
  show wpAny _ _ (assign (.Name x pos') X.env (.ref Dl)) _ _ s'
  refine wpAny_assign_Name (store_ok2 I' hN hi0 hx (v:=.ref Dl) (u:=.ref Dl) rfl (fun s'' I'' hb=>?_) hf)
  obtain⟨a,sb,ha⟩:=hb
  have hCa:cenv.locals≠a:=by
   rcases ha with rfl | ha
   ·exact f1
   ·exact fun z=>f4 x a ha z.symm
  refine⟨m,hn.sameBut sb hCa,fun h' hs'=>⟨_,H',Inv.wish ?_ _,q⟩⟩
  exact I''.turned (t':=s''.toks) (fun b o hb e=>(hs'.2 b hb).trans e) f0 f1 f3 f4 f5
end
abbrev Cx.pnd (X:Cx) (pn:List (Addr×Obj)):Cx:={X with pn:=pn}
abbrev Cx.held (X:Cx) (e:Value):Cx:={X with A:=X.A.mark (some e),calm:=false,xe:=fun _ _=>False}
section
variable {X:Cx} {pins:List (Addr×Obj)} {σ:St} {H:Hp} {s:Shared}
theorem Cx.Ok.pnd {pn:List (Addr×Obj)} (ok:X.Ok):(X.pnd pn).Ok:=⟨ok.mod,ok.kind,ok.glob,ok.blt,ok.above,ok.inj,ok.has,ok.cab,ok.hd,ok.frames,ok.stk,ok.exf,ok.bs,ok.bsz,ok.noex,ok.exfs,ok.funs,ok.frf⟩
theorem Cx.Ok.unpnd {pn:List (Addr×Obj)} (ok:(X.pnd pn).Ok):X.Ok:=⟨ok.mod,ok.kind,ok.glob,ok.blt,ok.above,ok.inj,ok.has,ok.cab,ok.hd,ok.frames,ok.stk,ok.exf,ok.bs,ok.bsz,ok.noex,ok.exfs,ok.funs,ok.frf⟩
theorem Inv.pnd (I:Inv X pins σ H s):Inv (X.pnd (X.pn++pins)) [] σ H s:=⟨I.ok.pnd,I.os,I.bare,I.base,I.loc,I.cell,I.free,I.freeC,fun p hp=>I.pin p (by simpa using hp),I.hok,I.len⟩
theorem Inv.unpnd (I:Inv (X.pnd (X.pn++pins)) [] σ H s):Inv X pins σ H s:=⟨I.ok.unpnd,I.os,I.bare,I.base,I.loc,I.cell,I.free,I.freeC,fun p hp=>I.pin p (by simpa using hp),I.hok,I.len⟩
theorem Inv.held (I:Inv X pins σ H s) (e:Value):Inv (X.held e) pins σ H s:=⟨⟨I.ok.mod,I.ok.kind,I.ok.glob,I.ok.blt,I.ok.above,I.ok.inj,I.ok.has,I.ok.cab,(fun z=>nomatch z),I.ok.frames,I.ok.stk,I.ok.exf,I.ok.bs,I.ok.bsz,I.ok.noex,I.ok.exfs,I.ok.funs,I.ok.frf⟩,I.os,I.bare,I.base,I.loc,I.cell,I.free,I.freeC,I.pin,I.hok,I.len⟩
theorem Inv.unheld {e:Value} {ok:X.Ok} (I:Inv (X.held e) pins σ H s):Inv X pins σ H s:=⟨ok,I.os,I.bare,I.base,I.loc,I.cell,I.free,I.freeC,I.pin,I.hok,I.len⟩
def ExcO (C a:Addr) (dx:Option Addr):HO:=HO.ext fun h=>∃ oe,h.get? a=some oe∧oe.cls=.ref C∧oe.dict=dx∧PySem.W.notCls oe=true
theorem Inv.track {C a:Addr} {dx:Option Addr} {oe:Obj} (I:Inv X pins σ H s) (l:Loose X pins H a) (e:s.heap.get? a=some oe) (c:oe.cls=.ref C) (d:oe.dict=dx) (nc:PySem.W.notCls oe=true):Inv X pins σ (upd H a (ExcO C a dx)) s:=by
 have nb:∀ b u,H b=some u→b≠a:=fun b u q=>ne_of_none q l.un
 refine⟨I.ok,I.os,I.bare,⟨I.base.keep,I.base.slot,fun b o q n hx=>?_,I.base.there,fun b xs q=>?_,fun b o xs q=>?_,fun b ps q=>?_⟩,I.loc,I.cell,?_,fun x c hc=>?_,fun p hp=>?_,fun b u q=>?_,I.len⟩
 ·have : b≠a:=by
   rintro rfl
   rcases l.new with z | z
   ·exact hx z
   ·rw [z] at q; cases q
  rw [upd_ne this]; exact I.base.free b o q n hx
 ·have:=I.base.tups b xs q
  rw [upd_ne (nb b _ this)]; exact this
 ·have:=I.base.frzs b o xs q
  rw [upd_ne (nb b _ this)]; exact this
 ·obtain⟨m,z⟩:=I.base.tbls b ps q
  exact⟨m,by rw [upd_ne (nb b _ z)]; exact z⟩
 ·rw [upd_ne (Ne.symm l.loc)]; exact I.free
 ·rw [upd_ne (l.cel x c hc)]; exact I.freeC x c hc
 ·obtain⟨e1,n,ne,nf,d⟩:=I.pin p hp
  exact⟨e1,by rw [upd_ne (l.pin p hp)]; exact n,ne,nf,d⟩
 ·by_cases hb:b=a
  ·subst hb
   rw [upd_same] at q; cases q
   exact⟨⟨oe,e,c,d,nc⟩,⟨oe,e⟩,fun h1 h2 ⟨o,z1,z2⟩ k=>⟨o,k o z1,z2⟩⟩
  ·rw [upd_ne hb] at q
   exact(I.hok b u q).stay (fun _ _ _ z=>z) (fun c z=>by rw [upd_ne (nb c _ z)]; exact z) fun c xs z=>by rw [upd_ne (nb c _ z)]; exact z
theorem unbind_ok {M:Model} {A:Around} {E:Value→Shared→Prop} {i:Nat} {x:Str} {v:V} {pos:Pos} {Q:Unit→Shared→Prop} (I:Inv X pins σ H s) (hN:X.N.Nodup) (hi:X.N[i]? = some x) (hk:X.env.scope.names.lookup x=some .local) (hv:σ[i]? = some (some v))
  (h:∀ s',Inv X pins (σ.set i none) H s'→Q () s'):wpAny M A (unbindBehindTheSuite X.env x pos) Q E s:=by
 obtain⟨m,hn,hl⟩:=id I.loc
 obtain⟨u,_,lk⟩:=hl i x v hi hv (.inl hk)
 have hm:m x=some u:=by
  rcases lk with ⟨_,z⟩ | ⟨z,_⟩
  ·exact z
  ·rcases z with z | z <;> (rw [show X.env.kindOf x=some NameKind.local from hk] at z; cases z)
 have hcls:(X.env.scope.kind==.class||(X.env.scope.kind==.module&&X.env.locals != X.env.globals))=false:=by rw [I.ok.kind]; rfl
 unfold unbindBehindTheSuite
 refine wpAny_onRaise (wpAny_unbindName_local hk hn hm hcls fun h' u' hn' hs=>h _ ?_)
 have low:∀ b o,X.s₀.heap.get? b=some o→b≠X.env.locals:=fun b o e=>Nat.ne_of_lt (Nat.lt_of_lt_of_le (Heap.lt_size e) I.ok.above)
 refine⟨I.ok,I.os,I.bare,⟨fun b o e n hb hx=>(hs.2 b (low b o e)).trans (I.base.keep b o e n hb hx),fun b o e n hb hx=>?_,I.base.free,fun b o e hx=>?_,I.base.tups,I.base.frzs,I.base.tbls⟩,⟨_,hn',fun j y v' e1 e2 e3=>?_⟩,fun y c e=>?_,I.free,I.freeC,fun p hp=>?_,fun b o e=>?_,by rw [List.length_set]; exact I.len⟩
 ·obtain⟨sl,e1⟩:=I.base.slot b o e n hb hx
  exact⟨sl,(hs.2 b (low b o e)).trans e1⟩
 ·obtain⟨o',e1⟩:=I.base.there b o e hx
  exact⟨o',(hs.2 b (low b o e)).trans e1⟩
 ·by_cases hj:j=i
  ·subst hj
   rw [List.getElem?_set] at e2
   simp at e2
  ·rw [List.getElem?_set_ne (Ne.symm hj)] at e2
   obtain⟨u2,r2,q⟩:=hl j y v' e1 e2 e3
   refine⟨u2,r2,?_⟩
   rcases q with ⟨k,e⟩ | ⟨k,c,e,z⟩
   ·refine .inl ⟨k,?_⟩
    have : y≠x:=fun e=>hj (nodup_ix hN e1 (e▸hi))
    simp [this,e]
   ·exact .inr ⟨k,c,e,z.sameBut hs (I.cne y c e)⟩
 ·obtain⟨w',z⟩:=I.cell y c e
  exact⟨w',z.sameBut hs (I.cne y c e)⟩
 ·obtain⟨e,n,ne,nf,d⟩:=I.pin p hp
  exact⟨(hs.2 p.1 ne).trans e,n,ne,nf,d⟩
 ·refine(I.hok b o e).stay (fun c w' hc q=>(hs.2 c ?_).trans q) (fun _ q=>q) fun _ _ q=>q
  rintro rfl
  rcases hc with rfl | hc
  ·rw [I.free] at e; cases e
  ·rw [I.free] at hc; cases hc
end
def IsCls (K:PySem.W.Frag) (B:Addr):Prop:=∃ d cd sl,K.lookup B=some ⟨.type "type",d,.cls cd,sl⟩
theorem excm {M:Model} {A:Around} {K:PySem.W.Frag} {E:Value→Shared→Prop} {s:Shared} {a B C:Addr} {o:Obj} {Q:Bool→Shared→Prop} (X:K.In s.heap) (hB:IsCls K B) (mB:PySem.W.mroIn K B (.type "BaseException")=some true) (mC:PySem.W.mroIn K C (.ref B)=some true)
  (hx:s.heap.get? a=some o) (hc:o.cls=.ref C) (q:Q true s):wpAny M A (excMatches (.ref a) (.ref B)) Q E s:=by
 obtain⟨h,g,d,t,os⟩:=s
 obtain⟨d',cd',sl',ho⟩:=hB
 have hO:=X _ _ ho
 have f:=tc_notTuple
 have L1:=PySem.W.looks_mroIn (M:=M) X mB
 have L2:=PySem.W.looks_mroIn (M:=M) X mC
 unfold excMatches
 repeat (first | (with_reducible refine wpAny_loadPart_at hx ?_; rw [hc]) | with_reducible refine wpAny_loadPart_at hO ?_ | (with_reducible refine L1.at ?_) | (with_reducible refine L2.at ?_) | wp_step)
 exact q
def tTry (K:PySem.W.Frag) (B:Addr) (i:Nat) (Ec:XK) (tb ts:TS):TS:=fun D σ H=>tb D σ H∧∀ (cls:Value) (dx:Option Addr) (H1:Hp) (σ1:St),Ec cls dx H1→σ1.length=σ.length→∃ C,cls=.ref C∧PySem.W.mroIn K C (.ref B)=some true∧∀ a,H1 a=none→
 ts {nx:=fun σ2 H2=>D.nx (σ2.set i none) H2,rt:=D.rt,bk:=fun σ2 H2=>D.bk (σ2.set i none) H2,ct:=fun σ2 H2=>D.ct (σ2.set i none) H2} (σ1.set i (some (.ref a))) (upd H1 a (ExcO C a dx))
theorem ps_tryAs {X:Cx} {E':Value→Shared→Prop} {Ec:XK} {B:Addr} {i:Nat} {x n:Str} {body suite:List Stmt} {b0:Stmt} {np hp pos:Pos} {tb ts:TS} (hm:X.mg x=some (.ref B)) (hB:IsCls X.K B) (mB:PySem.W.mroIn X.K B (.type "BaseException")=some true) (hg:Gl X x) (hN:X.N.Nodup) (hi:X.N[i]? = some n) (hl:X.env.scope.names.lookup n=some .local)
  (hb:∀ pn,PSs ((X.pnd pn).exc Ec) body tb) (hs:∀ pn e,PSs ((X.pnd pn).held e) (b0::suite) ts) (hdb:(x==("__debug__":Str))=false:=by decide) :
  PS (X.wish E') (.Try body [.ExceptHandler (some (.Name x np)) (some n) (b0::suite) hp] [] [] pos) (tTry X.K B i Ec tb ts):=by
 intro pins s σ H D Iw h
 obtain⟨h1,h2⟩:=h
 have I:Inv X pins σ H s:=Iw.unwish
 refine wpAny_Try_except (wpAny_mono (hb (X.pn++pins) [] s σ H D (I.pnd.wish _) h1) (fun f s1 z=>?_) fun e s1 z=>?_)
 ·have z':SP (X.wish E') pins D f s1:=by
   cases f with
   | next=>obtain⟨σ',H',J,q⟩:=z; exact⟨σ',H',J.unwish.unpnd.wish _,q⟩
   | brk=>obtain⟨σ',H',J,q⟩:=z; exact⟨σ',H',J.unwish.unpnd.wish _,q⟩
   | cont=>obtain⟨σ',H',J,q⟩:=z; exact⟨σ',H',J.unwish.unpnd.wish _,q⟩
   | ret u=>obtain⟨v,σ',H',J,r,q⟩:=z; exact⟨v,σ',H',J.unwish.unpnd.wish _,r,q⟩
  cases f with
  | next=>exact wpAny_execs_nil z'
  | brk=>exact z'
  | cont=>exact z'
  | ret u=>exact z'
 ·have z1:XE (X.pnd (X.pn++pins)) Ec e s1:=z
  refine wpAny_mono z1.note (fun _ s2 z2=>wpAny_mono z2.land (fun _ s3 z3=>?_) fun _ _ q=>q) fun _ _ q=>q
  obtain⟨a,L,cls,dx,σ1,H1,fl,S,env0,rest,rfl,hst,hf0,hf,I3,ex,hpp,hS,hE⟩:=id z3
  have hlen:σ1.length=σ.length:=I3.len.trans I.len.symm
  obtain⟨C,rfl,mC,h3⟩:=h2 cls dx H1 σ1 hE hlen
  have hcl:∃ oe,s3.heap.get? a=some oe∧oe.cls=.ref C:=by
   cases ex with
   | made he hc=>exact⟨_,he,hc⟩
   | ent he hc=>exact⟨_,he,hc⟩
  obtain⟨oe,he,hoc⟩:=hcl
  refine wpAny_handleBy_cons (codeAny_handlers_test (ld_glob (X:=(X.pnd (X.pn++pins)).held (.ref a)) (I3.held _) hg hm ?_ hdb)) (by intro q; cases q)
  refine excm I3.kIn hB mB mC he hoc ?_
  refine codeAny_handlers_suite_as ?_
  refine wpAny_mono z3.land (fun _ s4 z4=>?_) fun _ _ q=>q
  obtain⟨a',L',cls',dx4,σ4,H4,fl4,S4,env4,rest4,ea,hst4,hf04,hf4,I4,ex4,hpp4,hS4,hE4⟩:=z4
  cases ea
  have hlen4:σ4.length=σ.length:=I4.len.trans I.len.symm
  obtain⟨C4,rfl,mC4,h4⟩:=h2 cls' dx4 H4 σ4 hE4 hlen4
  have hcl4:∃ oe,s4.heap.get? a=some oe∧oe.cls=.ref C4∧oe.dict=dx4∧PySem.W.notCls oe=true:=by
   cases ex4 with
   | made he hc hx hd=>exact⟨_,he,hc,hx,by unfold PySem.W.notCls; rw [hd]⟩
   | ent he hc hx hd=>exact⟨_,he,hc,hx,by unfold PySem.W.notCls; rw [hd]⟩
  obtain⟨oe4,he4,hoc4,hod4,hnc4⟩:=hcl4
  have la:Loose (X.pnd (X.pn++pins)) [] H4 a:=by
   cases ex4 with
   | made=>exact hS4 a (by simp)
   | ent=>exact hS4 a (by simp)
  have I5:=(I4.track la he4 hoc4 hod4 hnc4).held (.ref a)
  refine store_ok (X:=(X.pnd (X.pn++pins)).held (.ref a)) (v:=.ref a) I5 hN hi (.inl hl) rfl (fun s5 I6=>?_) (.inr hl)
  refine wpAny_mono (hs (X.pn++pins) (.ref a) [] s5 _ _ _ I6 (h4 a la.un)) (fun f s6 z6=>?_) fun _ _ q=>False.elim q
  have iσ:∀ σ':St,σ'.length=X.N.length→(σ'.set i (some V.non))[i]? = some (some V.non):=fun σ' hl'=>List.getElem?_set_self (by rw [hl']; exact(List.getElem?_eq_some_iff.mp hi).1)
  have fin:∀ {σ':St} {H':Hp} {Q:Unit→Shared→Prop},Inv ((X.pnd (X.pn++pins)).held (.ref a)) [] σ' H' s6→(∀ s8,Inv (X.wish E') pins (σ'.set i none) H' s8→Q () s8)→wpAny (model X.prog X.w) X.A (do bindName X.env n .none; unbindBehindTheSuite X.env n hp) Q (X.wish E').xe s6:=fun {σ' H' Q} J k=>by
   refine wpAny_bind (wpAny_bindName (store_ok (X:=(X.pnd (X.pn++pins)).held (.ref a)) (v:=.non) J hN hi (.inl hl) rfl (fun s7 J7=>?_) (.inr hl)))
   refine unbind_ok (X:=(X.pnd (X.pn++pins)).held (.ref a)) J7 hN hi hl (iσ σ' J.len) fun s8 J8=>k s8 ?_
   rw [List.set_set] at J8
   exact(J8.unheld (ok:=I3.ok)).unpnd.wish _
  cases f with
  | next=>obtain⟨σ',H',J,q⟩:=z6; exact fin J fun s8 J8=>⟨_,_,J8,q⟩
  | brk=>obtain⟨σ',H',J,q⟩:=z6; exact fin J fun s8 J8=>⟨_,_,J8,q⟩
  | cont=>obtain⟨σ',H',J,q⟩:=z6; exact fin J fun s8 J8=>⟨_,_,J8,q⟩
  | ret u=>obtain⟨v,σ',H',J,r,q⟩:=z6; exact fin J fun s8 J8=>⟨v,_,_,J8,r,q⟩
end L2
set_option maxHeartbeats 8000000
namespace L2
open PySem PySem.Spec PyProof.Rows
structure ExcLook (K:PySem.W.Frag) (C:Addr):Prop where
 ga:PySem.W.findIn K (.ref C) "__getattribute__"=some (some (.builtin "BaseException.__getattribute__"))
 gn:PySem.W.findIn K (.ref C) "__getattr__"=some none
 cl:PySem.W.findIn K (.ref C) "__class__"=some (some (.builtin "object.__class__"))
 mb:PySem.W.mroIn K C (.type "BaseException")=some true
 mo:PySem.W.mroIn K C (.type "object")=some true
 ty:(PySem.W.clsIn K C).isSome=true
section
variable {prog:Program} {w:World} {A:Around} {E:Value→Shared→Prop} {h:Heap} {g:Array GenState} {d:Drawn} {t:Nat} {os:OsState} {a C:Addr} {o:Obj} {K:PySem.W.Frag}
theorem xcls_get {R:Result→Shared→Prop} (X:K.In h) (F:ExcLook K C) (hx:h.get? a=some o) (hc:o.cls=.ref C) (q:R (.ok (.ret (.ref C))) ⟨h,g,d,t,os⟩) :
  codeAny (model prog w) A (.call (.builtin "getset_descriptor.__get__") ⟨[.builtin "object.__class__",.ref a,.ref C],[]⟩) R ⟨h,g,d,t,os⟩:=by
 have hT5:(⟨h,g,d,t,os⟩:Shared).TypeIs (.builtin "object.__class__") "getset_descriptor":=PySem.F.typeOf_object_class
 have L:=PySem.W.looks_mroIn (M:=model prog w) X F.mo
 have eo:(Value.type (".".intercalate ("object.__class__".cutAt '.').dropLast))=.type "object":=by rw [PySem.F.owner_object_class]
 refine codeAny_call_builtin PySem.F.slot_gs_get.plain PySem.F.entry_gs_get (PySem.F.slot_gs_get.check _ _ _ _ _ _ _ _ hT5 (PySem.F.args_gs_get _ _ _) ?_)
 repeat (any_goals (first | assumption | (with_reducible refine wpAny_loadPart_at hx ?_; rw [hc]) | (rw [eo]; with_reducible refine L.at ?_) | wp_step))
 refine⟨Code.quiet_builtin _ (by decide +kernel),codeAny_builtin PySem.F.entry_object_class ?_⟩
 repeat (any_goals (first | assumption | (with_reducible refine wpAny_loadPart_at hx ?_; rw [hc]) | wp_step))
theorem xcls_entry {tk:Tok} {Q:Fin→Shared→Prop} (X:K.In h) (F:ExcLook K C) (hx:h.get? a=some o) (hc:o.cls=.ref C) (q:Q (.done (.ret (.ref C))) ⟨h,g,d,t,os⟩) :
  wpAny (model prog w) A (Builtin.«object.__getattribute__» ⟨[.ref a,.str "__class__" tk],[]⟩) Q E ⟨h,g,d,t,os⟩:=by
 have hT5:(⟨h,g,d,t,os⟩:Shared).TypeIs (.builtin "object.__class__") "getset_descriptor":=PySem.F.typeOf_object_class
 have L:=PySem.W.looks_findIn (M:=model prog w) X F.cl
 have f5:=PySem.F.typeOf_object_class
 have f6:=PySem.F.slot_gs_get.lookup
 have f7:=PySem.F.slot_gs_set.lookup
 repeat (any_goals (first | assumption | (with_reducible refine wpAny_loadPart_at hx ?_; rw [hc]) | (with_reducible refine L.at ?_) | wp_step))
 refine xcls_get X F hx hc ?_
 repeat (any_goals (first | assumption | wp_step))
theorem xcls_check {nameV:Value} {Q:Unit→Shared→Prop} (X:K.In h) (F:ExcLook K C) (hx:h.get? a=some o) (hc:o.cls=.ref C) (q:Q () ⟨h,g,d,t,os⟩) :
  wpAny (model prog w) A (checkBuiltinCall "BaseException.__getattribute__" ⟨[.ref a,nameV],[]⟩) Q E ⟨h,g,d,t,os⟩:=by
 have hk:builtinKind "BaseException.__getattribute__"=some .slot:=by decide +kernel
 have hsplit:splitId "BaseException.__getattribute__"=some ("BaseException","__getattribute__"):=by decide +kernel
 have ha:=PySem.F.args_bexc_ga (.ref a) nameV
 have L:=PySem.W.looks_mroIn (M:=model prog w) X F.mb
 simp only [checkBuiltinCall,hk,hsplit]
 refine wpAny_bind ?_
 unfold isInstance
 repeat (first | (with_reducible refine wpAny_loadPart_at hx ?_; rw [hc]) | (with_reducible refine L.at ?_) | wp_step)
 exact q
theorem xcls_call {tk:Tok} {R:Result→Shared→Prop} (X:K.In h) (F:ExcLook K C) (hx:h.get? a=some o) (hc:o.cls=.ref C) (q:R (.ok (.ret (.ref C))) ⟨h,g,d,t,os⟩) :
  codeAny (model prog w) A (.call (.builtin "BaseException.__getattribute__") ⟨[.ref a,.str "__class__" tk],[]⟩) R ⟨h,g,d,t,os⟩:=
 codeAny_call_builtin PySem.F.attrBase_ValueError.ga.plain PySem.F.entry_bexc_ga (xcls_check X F hx hc (xcls_entry X F hx hc q))
theorem xcls_by {tk:Tok} {Q:Value→Shared→Prop} (X:K.In h) (F:ExcLook K C) (hx:h.get? a=some o) (hc:o.cls=.ref C) (q:Q (.ref C) ⟨h,g,d,t,os⟩) :
  wpAny (model prog w) A (getAttrBy (.ref a) (.str "__class__" tk) false) Q E ⟨h,g,d,t,os⟩:=by
 have f3:=PySem.F.attrBase_ValueError.ga.bind (.ref a)
 have L1:=PySem.W.looks_findIn (M:=model prog w) X F.ga
 have L2:=PySem.W.looks_findIn (M:=model prog w) X F.gn
 have hx2:(Value.builtin "BaseException.__getattribute__"==Value.builtin "object.__getattribute__")=false:=by decide +kernel
 have hx1:(onTheHeap (Value.ref C)&&Value.builtin "BaseException.__getattribute__"==Value.builtin "object.__getattribute__")=false:=by rw [hx2]; rfl
 repeat (any_goals (first | assumption | (with_reducible refine wpAny_loadPart_at hx ?_; rw [hc]) | (with_reducible refine L1.at ?_) | (with_reducible refine L2.at ?_) | wp_step))
 refine xcls_call X F hx hc ?_
 repeat (any_goals (first | assumption | wp_step))
theorem xcls_attr {Q:Option Value→Shared→Prop} (X:K.In h) (F:ExcLook K C) (hx:h.get? a=some o) (hc:o.cls=.ref C) (q:Q (some (.ref C)) ⟨h,g,d,t+1,os⟩) :
  wpAny (model prog w) A (getAttr? (.ref a) "__class__") Q E ⟨h,g,d,t,os⟩:=by
 unfold getAttr? getAttrBy?
 repeat (any_goals (first | assumption | (with_reducible refine xcls_by X F hx hc ?_) | wp_step))
end
end L2
set_option maxHeartbeats 4000000
namespace L2
open PySem PySem.Spec PyProof.Rows
theorem kitx_exc {K:PySem.W.Frag} {a C:Addr} (F:ExcLook K C):PySem.W.KitX K (.ref a) (.ref C) (fun h=>∃ o,h.get? a=some o∧o.cls=.ref C) where
 ty:=fun M h _ ⟨o,h1,h2⟩=>h2▸(PySem.W.Looks.ld h1).andThen .now
 it:=fun _ _ X _=>by
  have z:=F.ty
  unfold PySem.W.clsIn at z
  split at z
  ·rename_i c' d' cd' sl' ho
   intro A' Q' E' s' k q
   unfold isType loadHead
   exact wpAny_bind (wpAny_loadPart (k _ _ (X _ _ ho)) (wpAny_pure q))
  ·cases z
 ne:=fun h tp dd its n sl X htp=>by
  have z:=F.ty
  refine Bool.eq_false_iff.mpr fun q=>?_
  have e:C=tp:=Value.ref.inj (beq_iff_eq.mp q)
  subst e
  unfold PySem.W.clsIn at z
  split at z
  ·rename_i c' d' cd' sl' ho
   have y:=(X _ _ ho).symm.trans htp
   cases y
  ·cases z
 ca:=fun {prog w A E Q s} X p q=>by
  obtain⟨h,g,d,t,os⟩:=s
  obtain⟨o,h1,h2⟩:=p
  exact xcls_attr X F h1 h2 q
def cval:V→Option Value
 | .ty T=>some (.type T)
 | .ref D=>some (.ref D)
 | _=>none
section
variable {X:Cx}
theorem exc_at {P:Program} {w:World} {H:Hp} {h:Heap} {a C:Addr} {dx:Option Addr} (ok:HOk P w H h) (e:H a=some (ExcO C a dx)):∃ o,h.get? a=some o∧o.cls=.ref C:=let ⟨o,z1,z2,_⟩:=(ok a _ e).1; ⟨o,z1,z2⟩
theorem call_isiX:CallR X (.builtin "isinstance") (fun xs H Q=>∃ (a C:Addr) (dx:Option Addr) (cv:V) (c:Value) (b:Bool),xs=[.ref a,cv]∧cval cv=some c∧H a=some (ExcO C a dx)∧ExcLook X.K C∧PySem.W.kitOne X.K (.ref C) c=some b∧Q (.bl b) H):=by
 intro pins s σ H xs us Q I r h
 obtain⟨a,C,dx,cv,c,b,rfl,hcv,ha,F,e,q⟩:=h
 obtain⟨u,u',rfl,rx,ry⟩:=vals2 r
 cases rx
 have hu:u'=c:=by
  cases cv with
  | ty T=>cases ry; exact Option.some.inj hcv
  | ref D=>cases ry; exact Option.some.inj hcv
  | _=>cases hcv
 subst hu
 exact PySem.W.kia_one (kitx_exc F) I.kIn (exc_at I.hok ha) e (fun z=>nomatch z) fun tk=>⟨.bl b,H,I.tok tk,rfl,q⟩
theorem call_isiXt:CallR X (.builtin "isinstance") (fun xs H Q=>∃ (a C p:Addr) (dx:Option Addr) (ds:List Addr) (b:Bool),xs=[.ref a,.ref p]∧H p=some (.tup (ds.map V.ref))∧H a=some (ExcO C a dx)∧ExcLook X.K C∧PySem.W.kitAny X.K (.ref C) (ds.map Value.ref)=some b∧Q (.bl b) H):=by
 intro pins s σ H xs us Q I r h
 obtain⟨a,C,p,dx,ds,b,rfl,hp,ha,F,e,q⟩:=h
 obtain⟨u,u',rfl,rx,ry⟩:=vals2 r
 cases rx
 cases ry
 obtain⟨_,its,rv,o,h1,h2,n,h3⟩:=I.hok p _ hp
 have hits:its=ds.map Value.ref:=by
  have : ∀ (ds:List Addr) (its:List Value),Vals (ds.map V.ref) its→its=ds.map Value.ref:=by
   intro ds
   induction ds with
   | nil=>intro its r; cases r; rfl
   | cons x r ih=>intro its rr; cases rr with | cons y t=>cases y; rw [ih _ t]; rfl
  exact this ds its rv
 obtain⟨oc,od,odt,osl⟩:=o
 cases h2
 cases h3
 rw [hits] at h1
 exact PySem.W.kia_tup (kitx_exc F) I.kIn (exc_at I.hok ha) h1 e (fun z=>nomatch z) fun tk=>⟨.bl b,H,I.tok tk,rfl,q⟩
end
def DefE (P:Program) (w:World) (K:PySem.W.Frag) (mg:Str→Option Value) (base:Heap) (x:Str) (k:Nat) (ps:List Str) (sp:Sp):Prop:=
 ∃ f fd,mg x=some (.ref f)∧PySem.W.keepIn K (.ref f)=true∧Binds K fd ps []∧FnOk P w K mg base (CX1 P w) k f fd ps sp
theorem pe_defE {X:Cx} {E:XK} {x:Str} {k:Nat} {ps:List Str} {sp:Sp} {p pos:Pos} {e:Expr} {es:List Expr} {t:TA} (fr:Framed X) (D:DefE X.prog X.w X.K X.mg X.base x k ps sp) (hr:Room k X.A) (hg:Gl X x) (ha:PA (X.exc E) (e::es) t)
  (hdb:(x==("__debug__":Str))=false:=by decide) (he:starEach (e::es) X.env=(false,eval e X.env)::starEach es X.env:=by rfl) (hpl:(backTo pos (starEach es X.env)).any (·.1)=false:=by rfl) :
  PE (X.exc E) (.Call (.Name x p) (e::es) [] pos) (tCall sp [] E t):=by
 obtain⟨f,fd,hm,hk,hb,F⟩:=D
 exact pe_call (X:=X.exc E) F hr hg hm hk hb .nil (passes1 fr) ha hdb he hpl
theorem pe_defN {X:Cx} {x:Str} {k:Nat} {ps:List Str} {sp:Sp} {p pos:Pos} {e:Expr} {es:List Expr} {t:TA} (D:Def X.prog X.w X.K X.mg X.base x k ps sp) (hr:Room k X.A) (hg:Gl X x) (ha:PA X (e::es) t)
  (hdb:(x==("__debug__":Str))=false:=by decide) (he:starEach (e::es) X.env=(false,eval e X.env)::starEach es X.env:=by rfl) (hpl:(backTo pos (starEach es X.env)).any (·.1)=false:=by rfl) :
  PE X (.Call (.Name x p) (e::es) [] pos) (tCall sp [] E0 t):=pe_def D hr hg ha hdb he hpl
theorem framed_pnd {X:Cx} {pn:List (Addr×Obj)} (f:Framed X):Framed (X.pnd pn):=f
theorem FunAt.mkE {P:Program} {w:World} {K:PySem.W.Frag} {mg:Str→Option Value} {base:Heap} {x:Str} {st:Stmt} {N ps:List Str} {k:Nat} {sp:Sp} (F:FunAt K mg x st ps) (S:FnScope N ps (defScope st)) (len:∀ vs H Q E,sp vs H Q E→vs.length=ps.length)
  (hbody:∀ (f:Addr) (cdv:Value) (A:Around) (outer:List Env) (s:Shared) (H:Hp) (vs:List V) (Q:VK) (E:XK),Room k (A.deeper (envOfC x (defScope st) s.heap.objs.size f cdv))→sp vs H Q E→
   ∃ t,PSs ((cxOf (CX1 P w) P w K mg base N x (defScope st) f cdv A outer s H E).exc E) (defBody st) t∧t {nx:=fun _ H'=>Q .non H',rt:=Q} (start N vs) H):DefE P w K mg base x (k+1) ps sp:=by
 obtain⟨f,fd,Fn,hm,hb⟩:=F.ex
 exact⟨f,fd,hm,Fn.kp,hb,Fn.okE S len (hbody f)⟩
section
variable {κ:Type} [DecidableEq κ]
end
abbrev KT (H:Hp):List (List Key×V)→List (List Key×Addr×Value)→Prop:=Paired fun p q=>p.1=q.1∧H q.2.1=some (.tup (p.1.map kV))∧RelV p.2 q.2.2
section
variable {P:Program} {w:World} {H:Hp} {h:Heap} {a:Addr}
end
section
variable {X:Cx} {pins:List (Addr×Obj)} {σ:St} {H:Hp} {s:Shared} {a:Addr} {y v:V} {u r:Value} {o:Option V} {A:Around} {E:Value→Shared→Prop}
theorem Inv.big (I:Inv X pins σ H s):sysModules<s.heap.objs.size:=by
 have h:mainGlobals<s.heap.objs.size:=(I.mod.glob.keeps I.bk).lt
 exact Nat.lt_trans (by decide) h
end
section
variable {X:Cx} {pins:List (Addr×Obj)} {σ:St} {H:Hp} {s:Shared} {a:Addr} {kvs:List (Key×V)} {k:Key} {u:Value} {A:Around} {E:Value→Shared→Prop}
end
section
variable {X:Cx} {o i e value:Expr} {pos pos' tpos:Pos} {td ty tv:TE}
end
theorem dk_empty {P:Program} {w:World} {H:Hp} (h:Heap) (hb:sysModules<h.objs.size):ObjOk P w H (h.push {cls:=.type "dict",data:=.dict #[]}) h.objs.size (.dK []):=
 ⟨Nat.zero_le _,beq_eq_false_iff_ne.mpr (Ne.symm (Nat.ne_of_lt hb)),[],.nil,Heap.DictOf.new h⟩
def tDNewK:TE:=fun _ H Q=>∀ p,H p=none→Q (.ref p) (upd H p (.dK []))
section
variable {X:Cx} {pos:Pos}
theorem pe_dnewK:PE X (.Dict [] [] pos) tDNewK:=fun pins s σ H Q I h=>
 wpAny_Dict_empty ⟨.ref s.heap.objs.size,_,I.laid (a:=s.heap.objs.size) (o:=.dK []) (t':=s.toks) (fun _ _ q=>Heap.get?_push_of_some _ q) (Nat.le_refl _) (dk_empty s.heap I.big),rfl,h _ (I.hok.fresh (Nat.le_refl _))⟩
end
structure M1 (X:Cx) (o:Expr) (m:Str) (apos:Pos) (e:Expr) (cpos:Pos):Prop where
 base:attributeBase o m X.env (eval o X.env)=eval o X.env
 few:((backTo cpos (starEach [e] X.env)).all (fun x=>!x.1)&&(backToKw cpos (keywordEach [] X.env)).all (fun x=>x.1.isSome)
  && decide (([e]:List Expr).length+([]:List Keyword).length+(if ([]:List Keyword).isEmpty then 0 else 1)<30))=true
 line:(apos.endLine==cpos.line)=true
 trees:backTo cpos (starEach [e] X.env)=[(false,eval e X.env)]
structure M2 (X:Cx) (o:Expr) (m:Str) (apos:Pos) (e f:Expr) (cpos:Pos):Prop where
 base:attributeBase o m X.env (eval o X.env)=eval o X.env
 few:((backTo cpos (starEach [e,f] X.env)).all (fun x=>!x.1)&&(backToKw cpos (keywordEach [] X.env)).all (fun x=>x.1.isSome)
  && decide (([e,f]:List Expr).length+([]:List Keyword).length+(if ([]:List Keyword).isEmpty then 0 else 1)<30))=true
 line:(apos.endLine==cpos.line)=true
 trees:backTo cpos (starEach [e,f] X.env)=[(false,eval e X.env),(false,eval f X.env)]
section
variable {X:Cx} {pins:List (Addr×Obj)} {σ:St} {H:Hp} {s:Shared} {a:Addr} {y d:V} {u r:Value} {o:Option V} {A:Around} {E:Value→Shared→Prop}
end
section
variable {X:Cx} {o e f:Expr} {apos cpos:Pos} {td ty tx:TE}
end
section
variable {X:Cx} {pins:List (Addr×Obj)} {σ:St} {H:Hp} {s:Shared} {a:Addr} {kvs:List (Key×V)} {A:Around} {E:Value→Shared→Prop}
end
section
variable {X:Cx} {pins:List (Addr×Obj)} {σ:St} {H:Hp} {s:Shared} {a:Addr} {y:V} {u:Value} {A:Around} {E:Value→Shared→Prop}
end
section
variable {κ:Type} [DecidableEq κ]
end
theorem codeAny_compLoop_if {prog:Program} {w:World} {A:Around} {R:Result→Shared→Prop} {s:Shared} {elt cnd target iter:Expr} {scope:Scope} {pos:Pos} {it acc:Value} {env:Env} (I:Nat→Shared→Prop)
  (turn:∀ n s,I n s→wpAny (model prog w) A (pyNext it) (fun r s1=>match r with
   | none=>R (.ok .next) s1
   | some v=>wpAny (model prog w) A (letOwnedTupleGo target it v) (fun _ s1'=>wpAny (model prog w) A (assign target env v) (fun _ s2=>
     wpAny (model prog w) A (isTrue cnd env (eval cnd env)) (fun b s3=>if b=true then wpAny (model prog w) A (eval elt env) (fun x s4=>
       wpAny (model prog w) A (call (.builtin "list.append") [acc,x]) (fun _ s5=>∃ m,m<n∧I m s5) (notedBy (model prog w) A env fun e s'=>R (.error e) s') s4) (notedBy (model prog w) A env fun e s'=>R (.error e) s') s3 else ∃ m,m<n∧I m s3) (notedBy (model prog w) A env fun e s'=>R (.error e) s') s2)
     (notedBy (model prog w) A env fun e s'=>R (.error e) s') s1') (notedBy (model prog w) A env fun e s'=>R (.error e) s') s1) (notedBy (model prog w) A env fun e s'=>R (.error e) s') s)
  (n:Nat) (h:I n s):codeAny (model prog w) A (.compLoop (.ListComp elt [⟨target,iter,[cnd],0⟩] scope pos) 0 it acc env) R s:=by
 refine codeAny_loop rfl I (fun n s hI=>?_) n h
 show wpAny _ A ((compTurn (.ListComp elt [⟨target,iter,[cnd],0⟩] scope pos) 0 it acc env).onRaise (fun x=>do noteFrame x env; theTreesLotGoes x)) _ _ s
 refine wpAny_noted ?_
 rw [compTurn_list]
 refine wpAny_bind (wpAny_standAt (wpAny_bind (wpAny_mono (turn n s hI) (fun r s1 h1=>?_) fun _ _ h'=>h')))
 cases r with
 | none=>exact wpAny_pure h1
 | some v=>
  refine wpAny_bind (wpAny_mono h1 (fun _ s1' h1'=>?_) fun _ _ h'=>h')
  refine wpAny_bind (wpAny_mono h1' (fun _ s2 h2=>wpAny_bind (wpAny_mono (wpAny_tests_one h2) (fun ok s3 h3=>?_) fun _ _ h'=>h')) fun _ _ h'=>h')
  cases ok with
  | true=>exact wpAny_bind (wpAny_bind (wpAny_mono h3 (fun x s4 h4=>wpAny_bind (wpAny_mono h4 (fun _ s5 h5=>wpAny_pure (wpAny_pure ⟨rfl,h5⟩)) fun _ _ h'=>h')) fun _ _ h'=>h'))
  | false=>exact wpAny_bind (wpAny_pure (wpAny_pure ⟨rfl,h3⟩))
def CompOkF (n:Nat) (J:It) (g:TG) (tc:TT) (te:TE) (σ:St) (H:Hp) (Q:VK):Prop:=
 ∃ W:Nat→Nat→List V→St→Hp→Prop,(∃ m,W 0 m [] (List.replicate n none++σ) H)∧∀ i m ys σ' H,W i m ys σ' H→
  (J.stop i H∧∀ D,H D=none→Q (.ref D) (upd H D (.lst ys)))∨
  (J.go i H∧ys.length<sizeLine∧∀ x H',J.yld i H x H'→g x σ' H' fun σ2 H2=>tc σ2 H2 fun b H3=>if b=true then ∃ N:VK,te σ2 H3 N∧∀ v H4,N v H4→∃ m',m'<m∧W (i+1) m' (ys++[v]) σ2 H4 else ∃ m',m'<m∧W (i+1) m' ys σ2 H3)
def tCompF (n:Nat) (wi:TI) (g:InBlock TG) (tc:InBlock TT) (te:InBlock TE):TE:=fun σ H Q=>wi σ H fun J H1=>∀ cl C ex s Hc,CompOkF n J (g cl C ex s Hc) (tc cl C ex s Hc) (te cl C ex s Hc) σ H1 Q
section
variable {X:Cx} {n:Nat} {N':List Str} {scope:Scope} {elt cnd tg iter:Expr} {pos:Pos} {pins:List (Addr×Obj)} {σ:St} {H2:Hp} {s2:Shared} {cl:List (Str×Addr)}
theorem comp_blockF {E0:XK} {it:Addr} {fp:List Addr} {tn:Nat→Heap→Prop} {J:It} {g:InBlock TG} {tc:InBlock TT} {te:InBlock TE} {Q:VK} {E:Value→Shared→Prop}
  (hc:X.calm=true) (S:CompScope n N' X scope) (c1:∀ x c,cl.lookup x=some c→X.env.cells.lookup x=some c) (c2:∀ x∈scope.names,x.2=.free→∃ c,cl.lookup x.1=some c)
  (I2:Inv X pins σ H2 s2) (T:Turn X.prog X.w X.K tg J fp it tn) (st2:tn 0 s2.heap) (f2:∀ b∈fp,FpOk X pins H2 b)
  (hg:∀ cl C ex s H,PG ((cxComp X N' scope cl C ex s H).exc E0) tg (g cl C ex s H)) (hcn:∀ cl C ex s H,PT ((cxComp X N' scope cl C ex s H).exc E0) cnd (tc cl C ex s H)) (he:∀ cl C ex s H,PE ((cxComp X N' scope cl C ex s H).exc E0) elt (te cl C ex s H))
  (cok:∀ cl C ex s Hc,CompOkF n J (g cl C ex s Hc) (tc cl C ex s Hc) (te cl C ex s Hc) σ H2 Q) :
  wpAny (model X.prog X.w) X.A (newList []) (fun acc s3=>wpAny (model X.prog X.w) X.A (newFunctionEnv scope X.env.globals cl [] X.env.qual none .none (some X.env)) (fun cenv s4=>
   codeAny (model X.prog X.w) X.A (.compStart (.ListComp elt [⟨tg,iter,[cnd],0⟩] scope pos) 0 (.ref it) acc {cenv with scope:=relabel scope X.env})
    (fun r s'=>match r with | .ok _=>CompBack X pins σ Q acc cenv.locals s' | .error x=>XHeld (cxComp X N' scope cl cenv.locals fp s2 H2) E0 x s') s4) E s3) E s2:=by
 have fl:∀ b∈fp,@LT.lt Nat _ b s2.heap.objs.size:=fun b hb=>by
  obtain⟨o,e,_⟩:=T.obj _ _ st2 b hb
  exact Heap.lt_size e
 have frl:∀ b∈frs X.stack,@LT.lt Nat _ b s2.heap.objs.size:=fun b hb=>by
  obtain⟨_,o,ho,_⟩:=I2.stack.mem hb
  exact Heap.lt_size ho
 have celll:∀ x c,X.env.cells.lookup x=some c→@LT.lt Nat _ c s2.heap.objs.size:=fun x c e=>by
  obtain⟨v,q⟩:=I2.cell x c e
  exact q.lt
 refine wpAny_newObj_type (wpAny_newFunctionEnv S.cell (by intro y hy; simp at hy) (fun h1 hns1 hsb1=>?_) S.kind)
 dsimp only at hns1 hsb1 ⊢
 generalize hH2:s2.heap.push {cls:=.type "list",dict:=none,data:=.seq ([]:List Value).toArray}=G at hns1 hsb1 ⊢
 have hC:@Eq Nat G.objs.size (s2.heap.objs.size+1):=by rw [← hH2,Heap.size_push]
 have hDC:s2.heap.objs.size≠G.objs.size:=by show @Ne Nat _ _; omega
 have below:∀ b,@LT.lt Nat _ b s2.heap.objs.size→b≠G.objs.size∧b≠s2.heap.objs.size:=fun b hb=>⟨by show @Ne Nat _ _; omega,Nat.ne_of_lt hb⟩
 have old:∀ b o,s2.heap.get? b=some o→h1.get? b=some o:=fun b o e=>hsb1.extBut b o (below b (Heap.lt_size e)).1 (Heap.get?_push_of_some _ (hH2▸Heap.get?_push_of_some _ e))
 have hacc:h1.get? s2.heap.objs.size=some {cls:=.type "list",data:=.seq ([]:List Value).toArray 0}:=hsb1.extBut _ _ hDC (Heap.get?_push_of_some _ (hH2▸Heap.get?_push_size _ rfl))
 have hst1:tn 0 h1:=T.keep _ _ _ st2 fun b hb o e=>old b o e
 let X':=cxComp X N' scope cl G.objs.size fp s2 H2
 obtain⟨W,⟨m0,w0⟩,turn⟩:=cok cl G.objs.size fp s2 H2
 have hXe:X'.xe=X.xe:=rfl
 have stat:∀ {H':Hp} {ps:List (Addr×Obj)},(∀ b∈fp,H' b=none)→(∀ p∈ps,p.1=s2.heap.objs.size)→∀ b∈fp,FpOk X' ps H' b:=fun {H' ps} hn hp b hb=>by
  obtain⟨f0,f1,ff,f3,f4,f5⟩:=f2 b hb
  refine⟨hn b hb,(below b (fl b hb)).1,fun z=>?_,.inl hb,fun x c e z=>?_,fun p hp' z=>?_⟩
  ·exact(List.mem_cons.mp (I2.stkSub b z)).elim f1 ff
  ·exact f4 x c (c1 x c e) z
  ·have e:p.1=s2.heap.objs.size:=hp p (by simpa [X',cxComp] using hp')
   exact(below b (fl b hb)).2 (z.symm.trans e)
 have loop:∀ s3:Shared,s3={s2 with heap:=h1,toks:=s2.toks+([]:List (Str×Value)).length}→
   codeAny (model X.prog X.w) X.A (.compLoop (.ListComp elt [⟨tg,iter,[cnd],0⟩] scope pos) 0 (.ref it) (.ref s2.heap.objs.size) (compEnvC scope cl G.objs.size X.env))
    (fun r s'=>match r with | .ok _=>CompBack X pins σ Q (.ref s2.heap.objs.size) G.objs.size s' | .error x=>XHeld (cxComp X N' scope cl G.objs.size fp s2 H2) E0 x s') s3:=by
  rintro s3 rfl
  have I3:=comp_inv (us:=[]) (k:=0) (s':={s2 with heap:=h1,toks:=s2.toks+([]:List (Str×Value)).length}) S c1 c2 I2 f2 fl rfl hC rfl rfl old ⟨_,hns1⟩ hacc
  refine codeAny_compLoop_if (fun m s'=>∃ i ys us k σ' H',Inv X' [(s2.heap.objs.size,{cls:=.type "list",data:=.seq (us:List Value).toArray k})] σ' H' s'∧Vals ys us∧tn i s'.heap∧(∀ b∈fp,H' b=none)∧ys.length≤sizeLine∧W i m ys σ' H') ?_ m0
   ⟨0,[],[],0,_,H2,I3,.nil,hst1,fun b hb=>(f2 b hb).1,Nat.zero_le _,w0⟩
  rintro m s' ⟨i,ys,us,k,σ',H',I',rv,st',fr',hlen,w'⟩
  rcases turn i m ys σ' H' w' with ⟨stop,q⟩ | ⟨go,hlt,step⟩
  ·refine thn (T.done X' rfl rfl rfl hc i _ s' σ' H' _ I' (stat fr' (by simp)) st' stop) fun r s4 ⟨hr,I4⟩=>?_
   subst hr
   show CompBack X pins σ Q (.ref s2.heap.objs.size) G.objs.size s4
   obtain⟨m1,hn1,_⟩:=I4.loc
   obtain⟨pD,nD,_,_,_⟩:=I4.pin (s2.heap.objs.size,{cls:=.type "list",data:=.seq us.toArray k}) (List.mem_append_right _ (by simp))
   have nD:H' s2.heap.objs.size=none:=nD
   have pD:s4.heap.get? s2.heap.objs.size=some {cls:=.type "list",data:=.seq us.toArray k}:=pD
   have hok:HOk X.prog X.w (upd H' s2.heap.objs.size (.lst ys)) s4.heap:=fun b u e=>by
    by_cases hb:b=s2.heap.objs.size
    ·subst hb
     rw [upd_same] at e; cases e
     exact⟨hlen,us,k,rv,pD⟩
    ·rw [upd_ne hb] at e
     exact(I4.hok b u e).stay (fun _ _ _ q=>q) (fun c q=>by rw [upd_ne (ne_of_none q nD)]; exact q) fun c xs q=>by rw [upd_ne (ne_of_none q nD)]; exact q
   have un:Un (frs X.stack) fp H2 (upd H' s2.heap.objs.size (.lst ys)) s2.heap s4.heap:=by
    have u0:=I4.base
    refine⟨u0.keep,u0.slot,fun b o e n hx=>?_,u0.there,fun b xs e=>?_,fun b o xs e=>?_,fun b ps e=>?_⟩
    ·rw [upd_ne (below b (Heap.lt_size e)).2]; exact u0.free b o e n hx
    ·have q:=u0.tups b xs e
     rw [upd_ne (ne_of_none q nD)]; exact q
    ·have q:=u0.frzs b o xs e
     rw [upd_ne (ne_of_none q nD)]; exact q
    ·obtain⟨more,q⟩:=u0.tbls b ps e
     exact⟨more,by rw [upd_ne (ne_of_none q nD)]; exact q⟩
   have IX:Inv X pins σ (upd H' s2.heap.objs.size (.lst ys)) s4:=I2.call' (ch:=fp) I4.os un hok I4.bare fun b hb=>by
    obtain⟨f0,f1,ff,f3,f4,f5⟩:=f2 b hb
    exact⟨f3,f1,f4,f5⟩
   have hG0:H' G.objs.size=none:=I4.free
   refine⟨s2.heap.objs.size,_,m1,rfl,IX,hn1,⟨by rw [upd_ne (Ne.symm hDC)]; exact hG0,fun z=>?_,fun z=>?_,.inr ?_,fun x c e z=>?_,fun p hp z=>?_⟩,q _ nD⟩
   ·have q1:@LT.lt Nat _ X.env.locals s2.heap.objs.size:=I2.lt
    have q2:@Eq Nat G.objs.size X.env.locals:=z
    omega
   ·have z':G.objs.size∈frs X.outer:=z
    obtain⟨_,o,ho,_⟩:=I2.funs.mem z'
    have q1:@LT.lt Nat _ G.objs.size s2.heap.objs.size:=Heap.lt_size ho
    omega
   ·have q1:=I2.sz
    show @LE.le Nat _ X.s₀.heap.objs.size G.objs.size
    omega
   ·have q1:=celll x c e
    have q2:@Eq Nat c G.objs.size:=z
    omega
   ·have q1:@LT.lt Nat _ p.1 s2.heap.objs.size:=Heap.lt_size (I2.pin p hp).1
    have q2:@Eq Nat p.1 G.objs.size:=z
    omega
  ·refine thn (T.item X' rfl rfl rfl hc i _ s' σ' H' _ I' (stat fr' (by simp)) st' go) fun r s4 ⟨u,hr,h4⟩=>?_
   subst hr
   show wpAny _ _ (letOwnedTupleGo tg (.ref it) u) _ _ s4
   refine thn h4 fun _ s5 ⟨x,H5,I5,r5,y5,st5,fr5⟩=>?_
   have I5':=I5.pinned (stat fr5 (by simp)) (T.obj _ _ st5)
   have w1:=hg cl G.objs.size fp s2 H2 _ s5 σ' H5 x u _ (I5'.wish _) r5 (step x H5 y5)
   refine wpAny_mono w1 (fun _ s6 ⟨σ6,H6,I6,q6⟩=>?_) fun v s hv=>wpAny_mono (XE.note (X:=cxComp X N' scope cl G.objs.size fp s2 H2) (E:=E0) hv) (fun _ _ z=>z) fun _ _ z=>z
   have w15:=hcn cl G.objs.size fp s2 H2 _ s6 σ6 H6 _ I6 q6
   refine wpAny_mono w15 (fun bb s65 ⟨H65,I65,q65⟩=>?_) fun v s hv=>wpAny_mono (XE.note (X:=cxComp X N' scope cl G.objs.size fp s2 H2) (E:=E0) hv) (fun _ _ z=>z) fun _ _ z=>z
   cases bb with
   | false=>
    rw [if_neg Bool.false_ne_true] at q65 ⊢
    obtain⟨m',hm',w65⟩:=q65
    have I66:=I65.unwish
    have pinD:=I66.pin (s2.heap.objs.size,{cls:=.type "list",data:=.seq us.toArray k}) (List.mem_append_right _ (List.mem_append_left _ (by simp)))
    refine⟨m',hm',i+1,ys,us,k,σ6,H65,I66.pins_of (fun p hp=>by rw [List.mem_singleton.mp hp]; exact pinD),rv,T.keep _ _ _ st5 fun b hb o e=>?_,fun b hb=>?_,hlen,w65⟩
    ·exact(I66.pin (b,o) (List.mem_append_right _ (List.mem_append_right _ (mem_pinsAt hb e)))).1
    ·obtain⟨o,e,d⟩:=T.obj _ _ st5 b hb
     exact(I66.pin (b,o) (List.mem_append_right _ (List.mem_append_right _ (mem_pinsAt hb e)))).2.1
   | true=>
   rw [if_pos rfl] at q65 ⊢
   obtain⟨NN,q6,hNN⟩:=q65
   have I6:=I65
   have H6:=H65
   have w2:=he cl G.objs.size fp s2 H2 _ s65 σ6 H65 _ I6 q6
   refine wpAny_mono w2 (fun y s7 ⟨v,H7,I7w,r7,q7⟩=>?_) fun v s hv=>wpAny_mono (XE.note (X:=cxComp X N' scope cl G.objs.size fp s2 H2) (E:=E0) hv) (fun _ _ z=>z) fun _ _ z=>z
   have I7:=I7w.unwish
   obtain⟨m',hm',w7⟩:=hNN v H7 q7
   have pinD:=I7.pin (s2.heap.objs.size,{cls:=.type "list",data:=.seq us.toArray k}) (List.mem_append_right _ (List.mem_append_left _ (by simp)))
   obtain⟨pD,nD,lD,fD,_⟩:=pinD
   refine append_at (hsz:=by rw [List.size_toArray,← rv.length]; exact hlen) pD fun h8 hs8 hD8=>?_
   have nD:H7 s2.heap.objs.size=none:=nD
   have I8:Inv X' (pinsAt fp s5.heap) σ6 H7 {s7 with heap:=h8}:=by
    refine(I7.pins_of (pins':=pinsAt fp s5.heap) fun p hp=>I7.pin p (List.mem_append_right _ (List.mem_append_right _ hp))).turned (t':=s7.toks) (it:=s2.heap.objs.size) (fun b o hb e=>(hs8.2 b hb).trans e) nD lD (.inr (Nat.le_refl _)) (fun x c e z=>?_) fun p hp z=>?_
    ·have q1:=celll x c (c1 x c e)
     have q2:@Eq Nat c s2.heap.objs.size:=z
     omega
    ·have hp':p∈pinsAt fp s5.heap:=by simpa [X',cxComp] using hp
     have q1:=fl p.1 (of_pinsAt hp').1
     have q2:@Eq Nat p.1 s2.heap.objs.size:=z
     omega
   have I9:Inv X' [(s2.heap.objs.size,{cls:=.type "list",data:=.seq (us++[y]).toArray (k+1)})] σ6 H7 {s7 with heap:=h8}:=I8.pins_of fun p hp=>by
    have e:p=(s2.heap.objs.size,{cls:=.type "list",data:=.seq (us++[y]).toArray (k+1)}):=by simpa using hp
    subst e
    refine⟨by rw [hD8,List.push_toArray],nD,lD,fD,fun v z=>by cases z⟩
   refine⟨m',hm',i+1,ys++[v],us++[y],k+1,σ6,H7,I9,rv.append (.cons r7 .nil),T.keep _ _ _ st5 fun b hb o e=>?_,fun b hb=>?_,by rw [List.length_append,List.length_singleton]; omega,w7⟩
   ·exact(I8.pin (b,o) (List.mem_append_right _ (mem_pinsAt hb e))).1
   ·obtain⟨o,e,d⟩:=T.obj _ _ st5 b hb
    exact(I8.pin (b,o) (List.mem_append_right _ (mem_pinsAt hb e))).2.1
 exact codeAny_compStart_list (loop _ rfl) (T.self _ 0 _ _ _ hst1 (loop _ rfl))
theorem pe_compF {E0:XK} {wi:TI} {g:InBlock TG} {tc:InBlock TT} {te:InBlock TE} (fr:Framed X) (hc:X.calm=true) (S:CompScope n N' X scope) (hi:PI (X.exc E0) tg iter wi)
  (hg:∀ cl C ex s H,PG ((cxComp X N' scope cl C ex s H).exc E0) tg (g cl C ex s H)) (hcn:∀ cl C ex s H,PT ((cxComp X N' scope cl C ex s H).exc E0) cnd (tc cl C ex s H)) (he:∀ cl C ex s H,PE ((cxComp X N' scope cl C ex s H).exc E0) elt (te cl C ex s H))
  (hs:∀ x,foldedSetIterable iter X.env x=pure x:=by intro _; rfl):PE (X.exc E0) (.ListComp elt [⟨tg,iter,[cnd],0⟩] scope pos) (tCompF n wi g tc te):=by
 intro pins s σ H Q I h
 rw [eval_ListComp]
 obtain⟨cl,hcl,c1,c2⟩:=closure_ok (scope:=scope) (env:=X.env) fun x hx hf=>I.ok.has x.1 (S.free x hx hf)
 refine wpAny_comprehension_free (use:=none) rfl hs hcl S.kind S.names (thn (hi pins s σ H _ I h) fun v s1 h1=>thn h1 fun itv s2 h2=>?_)
 obtain⟨it,fp,tn,J,H2,e,I2w,T,st2,f2,cok⟩:=h2
 subst e
 have I2:=I2w.unwish
 refine wpAny_mono (comp_blockF (X:=X) (E0:=E0) (pos:=pos) (iter:=iter) (Q:=Q) (E:=(X.exc E0).xe) hc S c1 c2 I2 T st2 f2 hg hcn he cok) (fun acc s3 h3=>wpAny_mono h3 (fun cenv s4 h4=>codeAny_mono h4 fun r s' hr=>?_) fun _ _ z=>z) fun _ _ z=>z
 cases r with
 | error e=>exact comp_fails I2 f2 fr hr
 | ok f=>
  obtain⟨D,H',m,rfl,I',hn,⟨f0,f1,ff,f3,f4,f5⟩,q⟩:=hr
  refine⟨m,hn,fun h' hs'=>⟨.ref D,H',Inv.wish ?_ _,rfl,q⟩⟩
  exact I'.turned (t':=s'.toks) (fun b o hb e=>(hs'.2 b hb).trans e) f0 f1 f3 f4 f5
end
section
variable {X:Cx} {pins:List (Addr×Obj)} {σ:St} {H:Hp} {s:Shared}
theorem Inv.trackO {a:Addr} {o:HO} (I:Inv X pins σ H s) (l:Loose X pins H a) (ok:ObjOk X.prog X.w (upd H a o) s.heap a o):Inv X pins σ (upd H a o) s:=by
 have nb:∀ b u,H b=some u→b≠a:=fun b u q=>ne_of_none q l.un
 refine⟨I.ok,I.os,I.bare,⟨I.base.keep,I.base.slot,fun b o q n hx=>?_,I.base.there,fun b xs q=>?_,fun b o xs q=>?_,fun b ps q=>?_⟩,I.loc,I.cell,?_,fun x c hc=>?_,fun p hp=>?_,fun b u q=>?_,I.len⟩
 ·have : b≠a:=by
   rintro rfl
   rcases l.new with z | z
   ·exact hx z
   ·rw [z] at q; cases q
  rw [upd_ne this]; exact I.base.free b _ q n hx
 ·have:=I.base.tups b xs q
  rw [upd_ne (nb b _ this)]; exact this
 ·have:=I.base.frzs b o xs q
  rw [upd_ne (nb b _ this)]; exact this
 ·obtain⟨m,z⟩:=I.base.tbls b ps q
  exact⟨m,by rw [upd_ne (nb b _ z)]; exact z⟩
 ·rw [upd_ne (Ne.symm l.loc)]; exact I.free
 ·rw [upd_ne (l.cel x c hc)]; exact I.freeC x c hc
 ·obtain⟨e1,n,ne,nf,d⟩:=I.pin p hp
  exact⟨e1,by rw [upd_ne (l.pin p hp)]; exact n,ne,nf,d⟩
 ·by_cases hb:b=a
  ·subst hb
   rw [upd_same] at q; cases q
   exact ok
  ·rw [upd_ne hb] at q
   exact(I.hok b u q).stay (fun _ _ _ z=>z) (fun c z=>by rw [upd_ne (nb c _ z)]; exact z) fun c xs z=>by rw [upd_ne (nb c _ z)]; exact z
end
section
variable {X:Cx} {elts:List Expr} {k:Nat} {tpos:Pos}
end
end L2
set_option maxHeartbeats 1000000
namespace L2
open PySem PySem.Spec PyProof.Rows
section
variable {X:Cx}
end
end L2
namespace HT
open PySem PySem.Spec PyProof.Rows L2
section
variable {prog:Program} {w:World} {A:Around} {E:Value→Shared→Prop} {s:Shared}
end
end HT
namespace L2
open PySem PySem.Spec PyProof.Rows
section
variable {X:Cx}
end
abbrev CK:=Str×List Int
section
variable {P:Program} {w:World}
variable {A:Around} {E:Value→Shared→Prop} {s:Shared}
end
section
variable {P:Program} {w:World} {A:Around} {E:Value→Shared→Prop} {s:Shared} {d it:Addr} {es:Array DictEntry} {ep i:Nat}
end
abbrev CD:=List (CK×Addr×V)
section
variable {P:Program} {w:World} {H:Hp} {h:Heap} {a:Addr}
end
section
variable {X:Cx} {pins:List (Addr×Obj)} {σ:St} {H:Hp} {s:Shared} {a q:Addr} {cd:CD} {k:CK} {v:V} {r:Value} {A:Around} {E:Value→Shared→Prop}
end
section
variable {X:Cx} {o i e value:Expr} {pos pos' tpos:Pos} {td ty tv:TE}
end
section
variable {P:Program} {w:World}
section
variable {A:Around} {E:Value→Shared→Prop} {s:Shared}
end
end
section
variable {P:Program} {w:World} {A:Around} {E:Value→Shared→Prop} {s:Shared} {It1 It2:Nat→Heap→Prop} {z TI TO i1 i2 l1 l2:Addr} {xs ys:Array Value} {k:Nat} {x y:Value}
end
section
variable {P:Program} {w:World} {A:Around} {R:Result→Shared→Prop} {It1 It2:Nat→Heap→Prop} {z TI TO i1 i2 l1 l2 d:Addr} {xs ys:Array Value} {ws:List Str}
end
section
variable {P:Program} {w:World} {A:Around} {E:Value→Shared→Prop} {s:Shared} {l1 l2:Addr} {xs ys:Array Value}
end
end L2
set_option maxHeartbeats 4000000
namespace L2
open PySem PySem.Spec PyProof.Rows
abbrev LC2 (elt tg iter tg2 iter2:Expr) (ifs:List Expr) (scope:Scope) (pos:Pos):Expr:=.ListComp elt [⟨tg,iter,[],0⟩,⟨tg2,iter2,ifs,0⟩] scope pos
section
variable {P:Program} {w:World} {A:Around} {R:Result→Shared→Prop} {s:Shared} {elt tg iter tg2 iter2:Expr} {ifs:List Expr} {scope:Scope} {pos:Pos} {it acc:Value} {env:Env}
abbrev testsOf (ifs:List Expr) (env:Env):Sem Bool:=forIn ifs true fun c r=>if r=true then do let ok ← isTrue c env (eval c env); pure (ForInStep.yield ok) else pure (ForInStep.yield r)
theorem turn0:compTurn (LC2 elt tg iter tg2 iter2 ifs scope pos) 0 it acc env=(do
   standAt iter.pos
   match ← pyNext it with
   | none=>pure (.done .next)
   | some v=>
    letOwnedTupleGo tg it v
    assign tg env v
    let mut ok:=true
    for c in ([]:List Expr) do
     if ok then ok ← isTrue c env (eval c env)
    if ok then
     let x ← eval iter2 env
     standAt iter2.pos
     let x ← foldedSetIterable iter2 env x
     let _ ← runOwn (.compStart (LC2 elt tg iter tg2 iter2 ifs scope pos) 1 (← holding [x] (pyIter x)) acc env) env
    again (.compLoop (LC2 elt tg iter tg2 iter2 ifs scope pos) 0 it acc env)):=by rfl
theorem turn1:compTurn (LC2 elt tg iter tg2 iter2 ifs scope pos) 1 it acc env=(do
   standAt iter2.pos
   match ← pyNext it with
   | none=>pure (.done .next)
   | some v=>
    letOwnedTupleGo tg2 it v
    assign tg2 env v
    let mut ok:=true
    for c in ifs do
     if ok then ok ← isTrue c env (eval c env)
    if ok then
     (do let _ ← call (.builtin "list.append") [acc,← eval elt env])
    again (.compLoop (LC2 elt tg iter tg2 iter2 ifs scope pos) 1 it acc env)):=by rfl
theorem loop0 (I:Nat→Shared→Prop) (hs:∀ x,foldedSetIterable iter2 env x=pure x)
  (turn:∀ n s,I n s→wpAny (model P w) A (pyNext it) (fun r s1=>match r with
   | none=>R (.ok .next) s1
   | some v=>wpAny (model P w) A (letOwnedTupleGo tg it v) (fun _ s1'=>wpAny (model P w) A (assign tg env v) (fun _ s2=>
     wpAny (model P w) A (eval iter2 env) (fun x s3=>wpAny (model P w) A (pyIter x) (fun jt s4=>
      codeAny (model P w) A (.compStart (LC2 elt tg iter tg2 iter2 ifs scope pos) 1 jt acc env) (fun r s5=>match r with | .ok _=>∃ m,m<n∧I m s5 | .error _=>False) s4)
     (fun _ _=>False) s3) (fun _ _=>False) s2) (fun _ _=>False) s1') (fun _ _=>False) s1) (fun _ _=>False) s)
  (n:Nat) (h:I n s):codeAny (model P w) A (.compLoop (LC2 elt tg iter tg2 iter2 ifs scope pos) 0 it acc env) R s:=by
 refine codeAny_loop rfl I (fun n s hI=>?_) n h
 show wpAny _ A ((compTurn (LC2 elt tg iter tg2 iter2 ifs scope pos) 0 it acc env).onRaise (fun x=>do noteFrame x env; theTreesLotGoes x)) _ _ s
 refine wpAny_noted ?_
 rw [turn0]
 refine wpAny_bind (wpAny_standAt (wpAny_bind (wpAny_mono (turn n s hI) (fun r s1 h1=>?_) fun _ _ z=>z.elim)))
 cases r with
 | none=>exact wpAny_pure h1
 | some v=>
  refine wpAny_bind (wpAny_mono h1 (fun _ s1' h1'=>?_) fun _ _ z=>z.elim)
  refine wpAny_bind (wpAny_mono h1' (fun _ s2 h2=>wpAny_bind (wpAny_mono (wpAny_tests_nil (Q:=fun ok s3=>ok=true∧s3=s2) ⟨rfl,rfl⟩) (fun ok s3 h3=>?_) fun _ _ h'=>h')) fun _ _ z=>z.elim)
  obtain⟨rfl,rfl⟩:=h3
  simp only [if_true]
  refine wpAny_bind (wpAny_mono h2 (fun x s4 h4=>wpAny_bind (wpAny_standAt (wpAny_bind (wpAny_of_eq (hs x) (wpAny_bind (wpAny_holding (wpAny_mono h4 (fun jt s5 h5=>?_) fun _ _ z=>z.elim))))))) fun _ _ z=>z.elim)
  refine wpAny_bind (wpAny_runOwn (codeAny_mono h5 fun r s6 h6=>?_))
  cases r with
  | error e=>exact h6.elim
  | ok f=>exact wpAny_pure ⟨rfl,h6⟩
theorem loop1 (I:Nat→Shared→Prop)
  (turn:∀ n s,I n s→wpAny (model P w) A (pyNext it) (fun r s1=>match r with
   | none=>R (.ok .next) s1
   | some v=>wpAny (model P w) A (letOwnedTupleGo tg2 it v) (fun _ s1'=>wpAny (model P w) A (assign tg2 env v) (fun _ s2=>
     wpAny (model P w) A (testsOf ifs env) (fun b s3=>if b=true then wpAny (model P w) A (eval elt env) (fun x s4=>
       wpAny (model P w) A (call (.builtin "list.append") [acc,x]) (fun _ s5=>∃ m,m<n∧I m s5) (fun _ _=>False) s4) (fun _ _=>False) s3 else ∃ m,m<n∧I m s3) (fun _ _=>False) s2)
     (fun _ _=>False) s1') (fun _ _=>False) s1) (fun _ _=>False) s)
  (n:Nat) (h:I n s):codeAny (model P w) A (.compLoop (LC2 elt tg iter tg2 iter2 ifs scope pos) 1 it acc env) R s:=by
 refine codeAny_loop rfl I (fun n s hI=>?_) n h
 show wpAny _ A ((compTurn (LC2 elt tg iter tg2 iter2 ifs scope pos) 1 it acc env).onRaise (fun x=>do noteFrame x env; theTreesLotGoes x)) _ _ s
 refine wpAny_noted ?_
 rw [turn1]
 refine wpAny_bind (wpAny_standAt (wpAny_bind (wpAny_mono (turn n s hI) (fun r s1 h1=>?_) fun _ _ z=>z.elim)))
 cases r with
 | none=>exact wpAny_pure h1
 | some v=>
  refine wpAny_bind (wpAny_mono h1 (fun _ s1' h1'=>?_) fun _ _ z=>z.elim)
  refine wpAny_bind (wpAny_mono h1' (fun _ s2 h2=>wpAny_bind (wpAny_mono h2 (fun ok s3 h3=>?_) fun _ _ z=>z.elim)) fun _ _ z=>z.elim)
  cases ok with
  | true=>exact wpAny_bind (wpAny_bind (wpAny_mono h3 (fun x s4 h4=>wpAny_bind (wpAny_mono h4 (fun _ s5 h5=>wpAny_pure (wpAny_pure ⟨rfl,h5⟩)) fun _ _ z=>z.elim)) fun _ _ z=>z.elim))
  | false=>exact wpAny_bind (wpAny_pure (wpAny_pure ⟨rfl,h3⟩))
theorem start1 (h0:codeAny (model P w) A (.compLoop (LC2 elt tg iter tg2 iter2 ifs scope pos) 1 it acc env) R s)
  (h:wpAny (model P w) A (pyIter it) (fun jt s'=>codeAny (model P w) A (.compLoop (LC2 elt tg iter tg2 iter2 ifs scope pos) 1 jt acc env) R s') (fun _ _=>False) s) :
  codeAny (model P w) A (.compStart (LC2 elt tg iter tg2 iter2 ifs scope pos) 1 it acc env) R s:=by
 refine codeAny_of_tree ?_
 show wpAny _ _ ((compStart (LC2 elt tg iter tg2 iter2 ifs scope pos) 1 it acc env).onRaise (fun x=>do noteFrame x env; standAt theWindowsPlace)) _ _ s
 refine wpAny_notedAt ?_
 unfold compStart
 show wpAny _ _ (ask>>=_) _ _ s
 refine wpAny_bind (wpAny_askSetting (wpAny_ite ?_))
 split
 ·first
   | exact wpAny_bind (wpAny_pure (wpAny_pure (And.intro rfl h0)))
   | exact wpAny_pure (And.intro rfl h0)
 ·refine wpAny_bind (wpAny_rule ?_)
  show wpAny _ _ (standAt iter2.pos>>=_) _ _ s
  exact wpAny_bind (wpAny_standAt (wpAny_bind (wpAny_mono h (fun jt s' h'=>wpAny_pure (And.intro rfl h')) fun _ _ z=>z.elim)))
end
def PTs (X:Cx) (ifs:List Expr) (t:TT):Prop:=
 ∀ (pins:List (Addr×Obj)) (s:Shared) (σ:St) (H:Hp) (Q:Bool→Hp→Prop),Inv X pins σ H s→t σ H Q→wpAny (model X.prog X.w) X.A (testsOf ifs X.env) (TP X pins σ Q) X.xe s
def tYes:TT:=fun _ H Q=>Q true H
theorem pts_nil {X:Cx}:PTs X [] tYes:=fun pins s σ H Q I h=>wpAny_tests_nil ⟨H,I,h⟩
theorem pts_one {X:Cx} {c:Expr} {t:TT} (h:PT X c t):PTs X [c] t:=fun pins s σ H Q I hw=>wpAny_tests_one (h pins s σ H Q I hw)
def CompOk2 (n:Nat) (J:It) (g:TG) (wi2:TI) (g2:TG) (tc:TT) (te:TE) (σ:St) (H:Hp) (Q:VK):Prop:=
  ∃ W:Nat→Nat→List V→St→Hp→Prop,(∃ m,W 0 m [] (List.replicate n none++σ) H)∧∀ i m ys σ' H,W i m ys σ' H→
    (J.stop i H∧∀ D,H D=none→Q (.ref D) (upd H D (.lst ys)))∨
    (J.go i H∧∀ x H',J.yld i H x H'→g x σ' H' fun σ2 H2=>wi2 σ2 H2 fun J2 H3=>∃ U:Nat→Nat→List V→St→Hp→Prop,(∃ l,U 0 l ys σ2 H3)∧∀ j l zs σ4 H4,U j l zs σ4 H4→zs.length≤sizeLine∧
      ((J2.stop j H4∧∃ m',m'<m∧W (i+1) m' zs σ4 H4)∨
       (J2.go j H4∧zs.length<sizeLine∧∀ x H',J2.yld j H4 x H'→g2 x σ4 H' fun σ5 H5=>tc σ5 H5 fun b H6=>if b=true then ∃ N:VK,te σ5 H6 N∧∀ v H7,N v H7→∃ l',l'<l∧U (j+1) l' (zs++[v]) σ5 H7 else ∃ l',l'<l∧U (j+1) l' zs σ5 H6)))
def tComp2 (n:Nat) (wi:TI) (g:InBlock TG) (wi2:InBlock TI) (g2:InBlock TG) (tc:InBlock TT) (te:InBlock TE):TE:=fun σ H Q=>wi σ H fun J H1=>∀ cl C ex s Hc,CompOk2 n J (g cl C ex s Hc) (wi2 cl C ex s Hc) (g2 cl C ex s Hc) (tc cl C ex s Hc) (te cl C ex s Hc) σ H1 Q
abbrev lsO (us:List Value) (k:Nat):Obj:={cls:=.type "list",data:=.seq us.toArray k}
theorem Inv.grown {X:Cx} {D:Addr} {R:List (Addr×Obj)} {us us':List Value} {k k':Nat} {σ:St} {H:Hp} {s:Shared} {h8:Heap} (I:Inv X ((D,lsO us k)::R) σ H s) (hs8:Heap.SameBut D s.heap h8) (hD8:h8.get? D=some (lsO us' k')) (ab:X.s₀.heap.objs.size≤D)
  (hcell:∀ x c,X.env.cells.lookup x=some c→c≠D) (hR:∀ p∈X.pn++R,p.1≠D):Inv X ((D,lsO us' k')::R) σ H {s with heap:=h8}:=by
 obtain⟨_,nD,lD,fD,_⟩:=I.pin (D,lsO us k) (List.mem_append_right _ List.mem_cons_self)
 have I8:Inv X R σ H {s with heap:=h8}:=(I.pins_of (pins':=R) fun p hp=>I.pin p (List.mem_append_right _ (List.mem_cons_of_mem _ hp))).turned (t':=s.toks) (it:=D) (fun b o hb e=>(hs8.2 b hb).trans e) nD lD (.inr ab) hcell hR
 refine I8.pins_of fun p hp=>?_
 rcases List.mem_cons.mp hp with rfl | hp
 ·exact⟨hD8,nD,lD,fD,fun v z=>by cases z⟩
 ·exact I8.pin p (List.mem_append_right _ hp)
section
variable {X:Cx} {n:Nat} {N':List Str} {scope:Scope} {elt tg iter tg2 iter2:Expr} {ifs:List Expr} {pos:Pos} {pins:List (Addr×Obj)} {σ:St} {H2:Hp} {s2:Shared} {cl:List (Str×Addr)}
theorem comp_block2 {it:Addr} {fp:List Addr} {tn:Nat→Heap→Prop} {J:It} {g g2:InBlock TG} {wi2:InBlock TI} {tc:InBlock TT} {te:InBlock TE} {Q:VK} {E:Value→Shared→Prop}
  (hE:∀ v s,¬ X.xe v s) (hc:X.calm=true) (S:CompScope n N' X scope) (c1:∀ x c,cl.lookup x=some c→X.env.cells.lookup x=some c) (c2:∀ x∈scope.names,x.2=.free→∃ c,cl.lookup x.1=some c)
  (I2:Inv X pins σ H2 s2) (T:Turn X.prog X.w X.K tg J fp it tn) (st2:tn 0 s2.heap) (f2:∀ b∈fp,FpOk X pins H2 b)
  (hg:∀ cl C ex s H,PG (cxComp X N' scope cl C ex s H) tg (g cl C ex s H)) (hi2:∀ cl C ex s H,PI (cxComp X N' scope cl C ex s H) tg2 iter2 (wi2 cl C ex s H)) (hg2:∀ cl C ex s H,PG (cxComp X N' scope cl C ex s H) tg2 (g2 cl C ex s H)) (htc:∀ cl C ex s H,PTs (cxComp X N' scope cl C ex s H) ifs (tc cl C ex s H)) (hs2:∀ cl C ex s H x,foldedSetIterable iter2 (cxComp X N' scope cl C ex s H).env x=pure x) (he:∀ cl C ex s H,PE (cxComp X N' scope cl C ex s H) elt (te cl C ex s H))
  (cok:∀ cl C ex s Hc,CompOk2 n J (g cl C ex s Hc) (wi2 cl C ex s Hc) (g2 cl C ex s Hc) (tc cl C ex s Hc) (te cl C ex s Hc) σ H2 Q) :
  wpAny (model X.prog X.w) X.A (newList []) (fun acc s3=>wpAny (model X.prog X.w) X.A (newFunctionEnv scope X.env.globals cl [] X.env.qual none .none (some X.env)) (fun cenv s4=>
   codeAny (model X.prog X.w) X.A (.compStart (LC2 elt tg iter tg2 iter2 ifs scope pos) 0 (.ref it) acc {cenv with scope:=relabel scope X.env})
    (fun r s'=>match r with | .ok _=>CompBack X pins σ Q acc cenv.locals s' | .error _=>False) s4) E s3) E s2:=by
 have fl:∀ b∈fp,@LT.lt Nat _ b s2.heap.objs.size:=fun b hb=>by
  obtain⟨o,e,_⟩:=T.obj _ _ st2 b hb
  exact Heap.lt_size e
 have frl:∀ b∈frs X.stack,@LT.lt Nat _ b s2.heap.objs.size:=fun b hb=>by
  obtain⟨_,o,ho,_⟩:=I2.stack.mem hb
  exact Heap.lt_size ho
 have celll:∀ x c,X.env.cells.lookup x=some c→@LT.lt Nat _ c s2.heap.objs.size:=fun x c e=>by
  obtain⟨v,q⟩:=I2.cell x c e
  exact q.lt
 refine wpAny_newObj_type (wpAny_newFunctionEnv S.cell (by intro y hy; simp at hy) (fun h1 hns1 hsb1=>?_) S.kind)
 dsimp only at hns1 hsb1 ⊢
 generalize hH2:s2.heap.push {cls:=.type "list",dict:=none,data:=.seq ([]:List Value).toArray}=G at hns1 hsb1 ⊢
 have hC:@Eq Nat G.objs.size (s2.heap.objs.size+1):=by rw [← hH2,Heap.size_push]
 have hDC:s2.heap.objs.size≠G.objs.size:=by show @Ne Nat _ _; omega
 have below:∀ b,@LT.lt Nat _ b s2.heap.objs.size→b≠G.objs.size∧b≠s2.heap.objs.size:=fun b hb=>⟨by show @Ne Nat _ _; omega,Nat.ne_of_lt hb⟩
 have old:∀ b o,s2.heap.get? b=some o→h1.get? b=some o:=fun b o e=>hsb1.extBut b o (below b (Heap.lt_size e)).1 (Heap.get?_push_of_some _ (hH2▸Heap.get?_push_of_some _ e))
 have hacc:h1.get? s2.heap.objs.size=some {cls:=.type "list",data:=.seq ([]:List Value).toArray 0}:=hsb1.extBut _ _ hDC (Heap.get?_push_of_some _ (hH2▸Heap.get?_push_size _ rfl))
 have hst1:tn 0 h1:=T.keep _ _ _ st2 fun b hb o e=>old b o e
 let X':=cxComp X N' scope cl G.objs.size fp s2 H2
 obtain⟨W,⟨m0,w0⟩,turn⟩:=cok cl G.objs.size fp s2 H2
 have hXe:X'.xe=X.xe:=rfl
 have stat:∀ {H':Hp} {ps:List (Addr×Obj)},(∀ b∈fp,H' b=none)→(∀ p∈ps,p.1=s2.heap.objs.size)→∀ b∈fp,FpOk X' ps H' b:=fun {H' ps} hn hp b hb=>by
  obtain⟨f0,f1,ff,f3,f4,f5⟩:=f2 b hb
  refine⟨hn b hb,(below b (fl b hb)).1,fun z=>?_,.inl hb,fun x c e z=>?_,fun p hp' z=>?_⟩
  ·exact(List.mem_cons.mp (I2.stkSub b z)).elim f1 ff
  ·exact f4 x c (c1 x c e) z
  ·have e:p.1=s2.heap.objs.size:=hp p (by simpa [X',cxComp] using hp')
   exact(below b (fl b hb)).2 (z.symm.trans e)
 have loop:∀ s3:Shared,s3={s2 with heap:=h1,toks:=s2.toks+([]:List (Str×Value)).length}→
   codeAny (model X.prog X.w) X.A (.compLoop (LC2 elt tg iter tg2 iter2 ifs scope pos) 0 (.ref it) (.ref s2.heap.objs.size) (compEnvC scope cl G.objs.size X.env))
    (fun r s'=>match r with | .ok _=>CompBack X pins σ Q (.ref s2.heap.objs.size) G.objs.size s' | .error _=>False) s3:=by
  rintro s3 rfl
  have I3:=comp_inv (us:=[]) (k:=0) (s':={s2 with heap:=h1,toks:=s2.toks+([]:List (Str×Value)).length}) S c1 c2 I2 f2 fl rfl hC rfl rfl old ⟨_,hns1⟩ hacc
  refine loop0 (hs:=hs2 cl G.objs.size fp s2 H2) (fun m s'=>∃ i ys us k σ' H',Inv X' [(s2.heap.objs.size,lsO us k)] σ' H' s'∧Vals ys us∧tn i s'.heap∧(∀ b∈fp,H' b=none)∧ys.length≤sizeLine∧W i m ys σ' H') ?_ m0
   ⟨0,[],[],0,_,H2,I3,.nil,hst1,fun b hb=>(f2 b hb).1,Nat.zero_le _,w0⟩
  rintro m s' ⟨i,ys,us,k,σ',H',I',rv,st',fr',hlen,w'⟩
  rcases turn i m ys σ' H' w' with ⟨stop,q⟩ | ⟨go,step⟩
  ·refine thn (T.done X' rfl rfl rfl hc i _ s' σ' H' _ I' (stat fr' (by simp)) st' stop) fun r s4 ⟨hr,I4⟩=>?_
   subst hr
   show CompBack X pins σ Q (.ref s2.heap.objs.size) G.objs.size s4
   obtain⟨m1,hn1,_⟩:=I4.loc
   obtain⟨pD,nD,_,_,_⟩:=I4.pin (s2.heap.objs.size,{cls:=.type "list",data:=.seq us.toArray k}) (List.mem_append_right _ (by simp))
   have nD:H' s2.heap.objs.size=none:=nD
   have pD:s4.heap.get? s2.heap.objs.size=some {cls:=.type "list",data:=.seq us.toArray k}:=pD
   have hok:HOk X.prog X.w (upd H' s2.heap.objs.size (.lst ys)) s4.heap:=fun b u e=>by
    by_cases hb:b=s2.heap.objs.size
    ·subst hb
     rw [upd_same] at e; cases e
     exact⟨hlen,us,k,rv,pD⟩
    ·rw [upd_ne hb] at e
     exact(I4.hok b u e).stay (fun _ _ _ q=>q) (fun c q=>by rw [upd_ne (ne_of_none q nD)]; exact q) fun c xs q=>by rw [upd_ne (ne_of_none q nD)]; exact q
   have un:Un (frs X.stack) fp H2 (upd H' s2.heap.objs.size (.lst ys)) s2.heap s4.heap:=by
    have u0:=I4.base
    refine⟨u0.keep,u0.slot,fun b o e n hx=>?_,u0.there,fun b xs e=>?_,fun b o xs e=>?_,fun b ps e=>?_⟩
    ·rw [upd_ne (below b (Heap.lt_size e)).2]; exact u0.free b o e n hx
    ·have q:=u0.tups b xs e
     rw [upd_ne (ne_of_none q nD)]; exact q
    ·have q:=u0.frzs b o xs e
     rw [upd_ne (ne_of_none q nD)]; exact q
    ·obtain⟨more,q⟩:=u0.tbls b ps e
     exact⟨more,by rw [upd_ne (ne_of_none q nD)]; exact q⟩
   have IX:Inv X pins σ (upd H' s2.heap.objs.size (.lst ys)) s4:=I2.call' (ch:=fp) I4.os un hok I4.bare fun b hb=>by
    obtain⟨f0,f1,ff,f3,f4,f5⟩:=f2 b hb
    exact⟨f3,f1,f4,f5⟩
   have hG0:H' G.objs.size=none:=I4.free
   refine⟨s2.heap.objs.size,_,m1,rfl,IX,hn1,⟨by rw [upd_ne (Ne.symm hDC)]; exact hG0,fun z=>?_,fun z=>?_,.inr ?_,fun x c e z=>?_,fun p hp z=>?_⟩,q _ nD⟩
   ·have q1:@LT.lt Nat _ X.env.locals s2.heap.objs.size:=I2.lt
    have q2:@Eq Nat G.objs.size X.env.locals:=z
    omega
   ·have z':G.objs.size∈frs X.outer:=z
    obtain⟨_,o,ho,_⟩:=I2.funs.mem z'
    have q1:@LT.lt Nat _ G.objs.size s2.heap.objs.size:=Heap.lt_size ho
    omega
   ·have q1:=I2.sz
    show @LE.le Nat _ X.s₀.heap.objs.size G.objs.size
    omega
   ·have q1:=celll x c e
    have q2:@Eq Nat c G.objs.size:=z
    omega
   ·have q1:@LT.lt Nat _ p.1 s2.heap.objs.size:=Heap.lt_size (I2.pin p hp).1
    have q2:@Eq Nat p.1 G.objs.size:=z
    omega
  ·have hcD:∀ x c,cl.lookup x=some c→c≠s2.heap.objs.size:=fun x c e=>Nat.ne_of_lt (celll x c (c1 x c e))
   refine thn (T.item X' rfl rfl rfl hc i _ s' σ' H' _ I' (stat fr' (by simp)) st' go) fun r s4 ⟨u,hr,h4⟩=>?_
   subst hr
   show wpAny _ _ (letOwnedTupleGo tg (.ref it) u) _ _ s4
   refine thn h4 fun _ s5 ⟨x,H5,I5,r5,y5,st5,fr5⟩=>?_
   have I5':Inv X' ((s2.heap.objs.size,lsO us k)::pinsAt fp s5.heap) σ' H5 s5:=I5.pinned (stat fr5 (by simp)) (T.obj _ _ st5)
   have noD:∀ p∈X'.pn++pinsAt fp s5.heap,p.1≠s2.heap.objs.size:=fun p hp=>by
    have hp':p∈pinsAt fp s5.heap:=by simpa [X',cxComp] using hp
    exact(below p.1 (fl p.1 (of_pinsAt hp').1)).2
   have w1:=hg cl G.objs.size fp s2 H2 _ s5 σ' H5 x u _ I5' r5 (step x H5 y5)
   refine wpAny_mono w1 (fun _ s6 ⟨σ6,H6,I6,q6⟩=>?_) fun v s hv=>absurd hv (hE v s)
   refine wpAny_mono (hi2 cl G.objs.size fp s2 H2 _ s6 σ6 H6 _ I6 q6) (fun v s7 h7=>wpAny_mono h7 (fun jv s8 h8=>?_) fun v s hv=>absurd hv (hE v s)) fun v s hv=>absurd hv (hE v s)
   obtain⟨jt,fp2,tn2,J2,H8,rfl,I8,T2,st8,f8,U,⟨l0,u0⟩,uturn⟩:=h8
   have f8':∀ {H9:Hp} {us9:List Value} {k9:Nat},(∀ b∈fp2,H9 b=none)→∀ b∈fp2,FpOk X' ((s2.heap.objs.size,lsO us9 k9)::pinsAt fp s5.heap) H9 b:=fun {H9 us9 k9} hn b hb=>by
    obtain⟨a0,a1,a2,a3,a4,a5⟩:=f8 b hb
    refine⟨hn b hb,a1,a2,a3,a4,fun p hp=>?_⟩
    rcases List.mem_append.mp hp with hp | hp
    ·exact a5 p (List.mem_append_left _ hp)
    ·rcases List.mem_cons.mp hp with rfl | hp
     ·exact a5 (s2.heap.objs.size,lsO us k) (List.mem_append_right _ List.mem_cons_self)
     ·exact a5 p (List.mem_append_right _ (List.mem_cons_of_mem _ hp))
   have inner:codeAny (model X.prog X.w) X.A (.compLoop (LC2 elt tg iter tg2 iter2 ifs scope pos) 1 (.ref jt) (.ref s2.heap.objs.size) (compEnvC scope cl G.objs.size X.env))
     (fun r s5=>match r with | .ok _=>∃ m',m'<m∧(∃ i ys us k σ' H',Inv X' [(s2.heap.objs.size,lsO us k)] σ' H' s5∧Vals ys us∧tn i s5.heap∧(∀ b∈fp,H' b=none)∧ys.length≤sizeLine∧W i m' ys σ' H') | .error _=>False) s8:=by
    refine loop1 (fun l s'=>∃ j zs us k σ4 H4,Inv X' ((s2.heap.objs.size,lsO us k)::pinsAt fp s5.heap) σ4 H4 s'∧Vals zs us∧tn2 j s'.heap∧(∀ b∈fp2,H4 b=none)∧U j l zs σ4 H4) ?_ l0 ⟨0,ys,us,k,σ6,H8,I8,rv,st8,fun b hb=>(f8 b hb).1,u0⟩
    rintro l s' ⟨j,zs,us,k,σ4,H4,I',rv,st',fr',u'⟩
    obtain⟨hlen,⟨stop,m',hm',w'⟩ | ⟨go,hlt,step⟩⟩:=uturn j l zs σ4 H4 u'
    ·refine thn (T2.done X' rfl rfl rfl hc j _ s' σ4 H4 _ I' (f8' fr') st' stop) fun r s9 ⟨hr,I9⟩=>?_
     subst hr
     refine⟨m',hm',i+1,zs,us,k,σ4,H4,I9.pins_of fun p hp=>I9.pin p (List.mem_append_right _ (by rw [List.mem_singleton.mp hp]; exact List.mem_cons_self)),rv,T.keep _ _ _ st5 fun b hb o e=>?_,fun b hb=>?_,hlen,w'⟩
     ·exact(I9.pin (b,o) (List.mem_append_right _ (List.mem_cons_of_mem _ (mem_pinsAt hb e)))).1
     ·obtain⟨o,e,d⟩:=T.obj _ _ st5 b hb
      exact(I9.pin (b,o) (List.mem_append_right _ (List.mem_cons_of_mem _ (mem_pinsAt hb e)))).2.1
    ·refine thn (T2.item X' rfl rfl rfl hc j _ s' σ4 H4 _ I' (f8' fr') st' go) fun r s9 ⟨v,hr,h9⟩=>?_
     subst hr
     show wpAny _ _ (letOwnedTupleGo tg2 (.ref jt) v) _ _ s9
     refine thn h9 fun _ sA ⟨x,HA,IA,rA,yA,stA,frA⟩=>?_
     have IA':Inv X' ((s2.heap.objs.size,lsO us k)::(pinsAt fp s5.heap++pinsAt fp2 sA.heap)) σ4 HA sA:=IA.pinned (f8' frA) (T2.obj _ _ stA)
     have noD2:∀ p∈X'.pn++(pinsAt fp s5.heap++pinsAt fp2 sA.heap),p.1≠s2.heap.objs.size:=fun p hp=>by
      rcases List.mem_append.mp hp with hp | hp
      ·exact noD p (List.mem_append_left _ hp)
      ·rcases List.mem_append.mp hp with hp | hp
       ·exact noD p (List.mem_append_right _ hp)
       ·obtain⟨_,_,_,_,_,a5⟩:=f8 p.1 (of_pinsAt hp).1
        exact Ne.symm (a5 (s2.heap.objs.size,lsO _ _) (List.mem_append_right _ List.mem_cons_self))
     have w1:=hg2 cl G.objs.size fp s2 H2 _ sA σ4 HA x v _ IA' rA (step x HA yA)
     refine wpAny_mono w1 (fun _ sB ⟨σB,HB,IB,qB⟩=>?_) fun v s hv=>absurd hv (hE v s)
     have keepT:∀ {pins':List (Addr×Obj)} {sC:Shared} {σC:St} {HC:Hp},Inv X' (pins'++pinsAt fp2 sA.heap) σC HC sC→tn2 (j+1) sC.heap∧∀ b∈fp2,HC b=none:=fun {pins' sC σC HC} IC=>by
      refine⟨T2.keep _ _ _ stA fun b hb o e=>(IC.pin (b,o) (List.mem_append_right _ (List.mem_append_right _ (mem_pinsAt hb e)))).1,fun b hb=>?_⟩
      obtain⟨o,e,d⟩:=T2.obj _ _ stA b hb
      exact(IC.pin (b,o) (List.mem_append_right _ (List.mem_append_right _ (mem_pinsAt hb e)))).2.1
     refine wpAny_mono (htc cl G.objs.size fp s2 H2 _ sB σB HB _ IB qB) (fun b sC ⟨HC,IC,qC⟩=>?_) fun v s hv=>absurd hv (hE v s)
     cases b with
     | false=>
      rw [if_neg Bool.false_ne_true] at qC ⊢
      obtain⟨l',hl',uC⟩:=qC
      obtain⟨k1,k2⟩:=keepT (pins':=(s2.heap.objs.size,lsO us k)::pinsAt fp s5.heap) IC
      exact⟨l',hl',j+1,zs,us,k,σB,HC,IC.pins_of fun p hp=>IC.pin p (List.mem_append_right _ (by rcases List.mem_cons.mp hp with rfl | hp; exact List.mem_cons_self; exact List.mem_cons_of_mem _ (List.mem_append_left _ hp))),rv,k1,k2,uC⟩
     | true=>
      rw [if_pos rfl] at qC ⊢
      obtain⟨NN,qC,hNN⟩:=qC
      refine wpAny_mono (he cl G.objs.size fp s2 H2 _ sC σB HC _ IC qC) (fun y sD ⟨v,HD,ID,rD,qD⟩=>?_) fun v s hv=>absurd hv (hE v s)
      obtain⟨l',hl',uD⟩:=hNN v HD qD
      obtain⟨pD,nD,lD,fD,_⟩:=ID.pin (s2.heap.objs.size,lsO us k) (List.mem_append_right _ List.mem_cons_self)
      refine append_at (hsz:=by rw [List.size_toArray,← rv.length]; exact hlen) pD fun h9 hs9 hD9=>?_
      have IE:Inv X' ((s2.heap.objs.size,lsO (us++[y]) (k+1))::(pinsAt fp s5.heap++pinsAt fp2 sA.heap)) σB HD {sD with heap:=h9}:=ID.grown hs9 (by rw [hD9,List.push_toArray]) (Nat.le_refl _) hcD noD2
      obtain⟨k1,k2⟩:=keepT (pins':=(s2.heap.objs.size,lsO (us++[y]) (k+1))::pinsAt fp s5.heap) IE
      exact⟨l',hl',j+1,zs++[v],us++[y],k+1,σB,HD,IE.pins_of fun p hp=>IE.pin p (List.mem_append_right _ (by rcases List.mem_cons.mp hp with rfl | hp; exact List.mem_cons_self; exact List.mem_cons_of_mem _ (List.mem_append_left _ hp))),rv.append (.cons rD .nil),k1,k2,uD⟩
   exact start1 inner (T2.self _ 0 _ _ _ st8 inner)
 exact codeAny_compStart_list (loop _ rfl) (T.self _ 0 _ _ _ hst1 (loop _ rfl))
theorem ps_setComp2 {wi:TI} {g g2:InBlock TG} {wi2:InBlock TI} {tc:InBlock TT} {te:InBlock TE} {i:Nat} {x:Str} {pos' spos:Pos} (hN:X.N.Nodup) (hi0:X.N[i]? = some x) (hx:Loc X.env.scope x)
  (hsw:swapsWith (LC2 elt tg iter tg2 iter2 ifs scope pos) (some (.Name x pos')) spos.line X.env=pure true)
  (hE:∀ v s,¬ X.xe v s) (hc:X.calm=true) (S:CompScope n N' X scope) (hi:PI X tg iter wi)
  (hg:∀ cl C ex s H,PG (cxComp X N' scope cl C ex s H) tg (g cl C ex s H)) (hi2:∀ cl C ex s H,PI (cxComp X N' scope cl C ex s H) tg2 iter2 (wi2 cl C ex s H)) (hg2:∀ cl C ex s H,PG (cxComp X N' scope cl C ex s H) tg2 (g2 cl C ex s H)) (htc:∀ cl C ex s H,PTs (cxComp X N' scope cl C ex s H) ifs (tc cl C ex s H)) (he:∀ cl C ex s H,PE (cxComp X N' scope cl C ex s H) elt (te cl C ex s H))
  (hs:∀ x,foldedSetIterable iter X.env x=pure x:=by intro _; rfl) (hs2:∀ cl C ex s H x,foldedSetIterable iter2 (cxComp X N' scope cl C ex s H).env x=pure x:=by intro _ _ _ _ _ _; rfl) (hf:X.fn x=true∨X.env.scope.names.lookup x=some .local:=by first | exact .inl rfl | exact .inr rfl | assumption) :
  PS X (.Assign [.Name x pos'] (LC2 elt tg iter tg2 iter2 ifs scope pos) spos) (tAsg (tComp2 n wi g wi2 g2 tc te) (gName i)):=by
 intro pins s σ H D I h
 rw [exec_Assign_Name_used _ _ _ _ hsw]
 refine wpAny_bind (wpAny_standAt (wpAny_bind ?_))
 obtain⟨cl,hcl,c1,c2⟩:=closure_ok (scope:=scope) (env:=X.env) fun x hx hf=>I.ok.has x.1 (S.free x hx hf)
 show wpAny _ _ (do let _ ← comprehension (LC2 elt tg iter tg2 iter2 ifs scope pos) scope X.env _ (newList []) false (eval iter X.env) (some (assign (.Name x pos') X.env))) _ _ s
 refine wpAny_bind (wpAny_mono (wpAny_comprehension_free (use:=some (assign (.Name x pos') X.env)) (Q:=fun _ s'=>SP X pins D .next s') rfl hs hcl S.kind S.names
  (thn (hi pins s σ H _ I h) fun v s1 h1=>thn h1 fun itv s2 h2=>?_)) (fun _ s' hq=>wpAny_pure (wpAny_pure hq)) fun _ _ e=>e)
 obtain⟨it,fp,tn,J,H2,e,I2,T,st2,f2,cok⟩:=h2
 subst e
 refine wpAny_mono (comp_block2 (pos:=pos) (iter:=iter) (E:=X.xe) (Q:=fun x H1=>gName i x σ H1 D.nx) hE hc S c1 c2 I2 T st2 f2 hg hi2 hg2 htc hs2 he cok) (fun acc s3 h3=>wpAny_mono h3 (fun cenv s4 h4=>codeAny_mono h4 fun r s' hr=>?_) fun _ _ z=>z) fun _ _ z=>z
 cases r with
 | error e=>exact False.elim hr
 | ok f=>
  obtain⟨Dl,H',m,rfl,I',hn,⟨f0,f1,ff,f3,f4,f5⟩,q⟩:=hr
  show wpAny _ _ (assign (.Name x pos') X.env (.ref Dl)) _ _ s'
  refine wpAny_assign_Name (store_ok2 I' hN hi0 hx (v:=.ref Dl) (u:=.ref Dl) rfl (fun s'' I'' hb=>?_) hf)
  obtain⟨a,sb,ha⟩:=hb
  have hCa:cenv.locals≠a:=by
   rcases ha with rfl | ha
   ·exact f1
   ·exact fun z=>f4 x a ha z.symm
  refine⟨m,hn.sameBut sb hCa,fun h' hs'=>⟨_,H',?_,q⟩⟩
  exact I''.turned (t':=s''.toks) (fun b o hb e=>(hs'.2 b hb).trans e) f0 f1 f3 f4 f5
end
end L2
set_option maxHeartbeats 1000000
namespace L2
open PySem PySem.Spec PyProof.Rows
section
variable {X:Cx}
def upN (n:Nat):List Int:=(List.range n).map fun (i:Nat)=>(i:Int)
end
end L2
set_option maxHeartbeats 4000000
namespace L2
open PySem PySem.Spec PyProof.Rows
section
variable {X:Cx} {n:Nat} {N':List Str} {scope:Scope} {kx vx tg iter:Expr} {pos:Pos} {pins:List (Addr×Obj)} {σ:St} {H2:Hp} {s2:Shared} {cl:List (Str×Addr)}
end
end L2
set_option maxHeartbeats 1000000
namespace L2
open PySem PySem.Spec PyProof.Rows
section
variable {P:Program} {w:World} {A:Around} {E:Value→Shared→Prop} {s:Shared}
end
section
variable {X:Cx} {E:Value→Shared→Prop}
theorem PE.wish {e:Expr} {t:TE} (h:PE X.nox e t) (E:Value→Shared→Prop):PE (X.wish E) e t:=PE.nox (X:=X.wish E) h
theorem PG.wish {e:Expr} {t:TG} (h:PG X.nox e t) (E:Value→Shared→Prop):PG (X.wish E) e t:=fun pins s σ H v u Q I r hw=>
 wpAny_mono (h pins s σ H v u Q (I.unwish.wish _) r hw) (fun _ _ ⟨σ',H',I',q⟩=>⟨σ',H',I'.unwish.wish _,q⟩) fun _ _ z=>False.elim z
theorem PI.wish {tg e:Expr} {t:TI} (h:PI X.nox tg e t) (E:Value→Shared→Prop):PI (X.wish E) tg e t:=fun pins s σ H R I hw=>
 wpAny_mono (h pins s σ H R (I.unwish.wish _) hw) (fun _ _ z=>wpAny_mono z (fun _ _ ⟨it,fp,tn,J,H2,e,I2,T,st2,f2,r⟩=>⟨it,fp,tn,J,H2,e,I2.unwish.wish _,T,st2,f2,r⟩) fun _ _ z=>False.elim z) fun _ _ z=>False.elim z
end
section
variable {P:Program} {w:World} {A:Around} {E:Value→Shared→Prop} {s:Shared}
end
end L2
namespace L2
open PySem PySem.Spec PyProof.Rows PySem.Builtin.Str
section
variable {X:Cx}
end
end L2
namespace L2
open PySem PySem.Spec PyProof.Rows
section
variable {P:Program} {w:World} {A:Around} {E:Value→Shared→Prop} {s:Shared} {It1 It2:Nat→Heap→Prop} {z TI TO i1 i2 l1 l2:Addr} {xs ys:Array Value} {k:Nat} {x y a b:Value}
end
section
variable {X:Cx} {elts:List Expr} {k:Nat} {tpos:Pos}
end
section
variable {X:Cx} {pins:List (Addr×Obj)} {σ:St} {H:Hp} {s:Shared}
end
section
variable {X:Cx} {tg:Expr}
end
end L2
namespace L2
open PySem PySem.Spec PyProof.Rows PySem.Builtin.Str
section
variable {P:Program} {w:World} {A:Around} {E:Value→Shared→Prop} {s:Shared}
end
section
variable {X:Cx}
end
end L2
set_option maxHeartbeats 4000000
namespace L2
open PySem PySem.Spec PyProof.Rows
section
variable {X:Cx} {elts:List Expr} {k:Nat} {tpos:Pos}
end
end L2
set_option maxHeartbeats 1000000
namespace L2
open PySem PySem.Spec PyProof.Rows
end L2
set_option maxHeartbeats 4000000
namespace L2
open PySem PySem.Spec PyProof.Rows
section
variable {X:Cx} {pins:List (Addr×Obj)} {σ:St} {H:Hp} {s:Shared}
end
section
variable {X:Cx} {n:Nat} {N':List Str} {scope:Scope} {elt cnd tg iter:Expr} {pos:Pos}
theorem PT.wish {e:Expr} {t:TT} (h:PT X.nox e t) (E:Value→Shared→Prop):PT (X.wish E) e t:=PT.nox (X:=X.wish E) h
theorem pe_compG {wi:TI} {g:InBlock TG} {tc:InBlock TT} {te:InBlock TE} (fr:Framed X) (hc:X.calm=true) (S:CompScope n N' X.nox scope) (hi:PI X.nox tg iter wi)
  (hg:∀ cl C ex s H,PG (cxComp X.nox N' scope cl C ex s H) tg (g cl C ex s H)) (hcn:∀ cl C ex s H,PT (cxComp X.nox N' scope cl C ex s H) cnd (tc cl C ex s H)) (he:∀ cl C ex s H,PE (cxComp X.nox N' scope cl C ex s H) elt (te cl C ex s H))
  (hs:∀ x,foldedSetIterable iter X.env x=pure x:=by intro _; rfl):PE X.nox (.ListComp elt [⟨tg,iter,[cnd],0⟩] scope pos) (tCompF n wi g tc te):=by
 intro pins s σ H Q I h
 have S':CompScope n N' X scope:=⟨S.kind,S.names,S.cell,S.free,S.nd,S.len,S.look⟩
 refine wpAny_mono (pe_compF (X:=X) (E0:=fun _ _ _=>False) fr hc S' (hi.wish _) (fun cl C ex s H=>PG.wish (X:=cxComp X N' scope cl C ex s H) (hg cl C ex s H) _) (fun cl C ex s H=>PT.wish (X:=cxComp X N' scope cl C ex s H) (hcn cl C ex s H) _) (fun cl C ex s H=>PE.wish (X:=cxComp X N' scope cl C ex s H) (he cl C ex s H) _) hs pins s σ H Q (I.unwish.wish _) h)
  (fun _ _ ⟨v,H',I',r,q⟩=>⟨v,H',I'.unwish.wish _,r,q⟩) fun e s z=>?_
 obtain⟨a,L,cls,dx,σ',H',fl,S,env0,rest,h1,h2,h3,h4,h5,h6,h7,h8,hE⟩:=z
 exact hE
end
end L2
set_option maxHeartbeats 1000000
namespace L2
open PySem PySem.Spec PyProof.Rows
section
variable {X:Cx}
end
end L2
set_option maxHeartbeats 4000000
namespace L2
open PySem PySem.Spec PyProof.Rows
section
variable {prog:Program} {w:World} {A:Around} {E:Value→Shared→Prop} {h:Heap} {g:Array GenState} {d:Drawn} {t:Nat} {os:OsState} {C N fI:Addr} {bm bs:List Value} {nm q:Str} {hdct:Bool} {sn:List Str} {sub:List Value} {ab:Bool} {col:Option Bool} {dd:Option Addr} {k0 k1 k2 k3 k5:Option Value} {mN:Str→Option Value} {us:List Value} {oI:Obj}
theorem exc_type_init {Q:Fin→Shared→Prop} (T:OwnTail h [.type "ValueError",.type "Exception",.type "BaseException",.type "object"] bm) (hC:h.get? C=some (excClassObj nm q C N bs bm hdct sn sub ab col dd k0 k1 k2 k3 k5 "ValueError.__new__")) (hn:h.Ns N mN)
  (hi:mN "__init__"=some (.ref fI)) (hf:h.get? fI=some oI) (hfc:oI.cls=.type "function") (hz:us.length≤sizeLine)
  (k:∀ h' a,Heap.MadeExcOf h h' a (.ref C) us→wpAny (model prog w) A (call (.ref fI) (.ref a::us)) (fun r s'=>r=.none∧Q (.done (.ret (.ref a))) s') E ⟨h',g,d,t,os⟩):wpAny (model prog w) A (Builtin.«type.__call__» ⟨.ref C::us,[]⟩) Q E ⟨h,g,d,t,os⟩:=by
 have F:=PySem.F.excBase_ValueError
 have hBn:List.contains [Value.type "ValueError",.type "Exception",.type "BaseException",.type "object"] (.type "ValueError")=true:=by decide +kernel
 repeat (first | with_reducible refine wpAny_loadPart_at hC ?_ | with_reducible refine wpAny_madeBy_exc hC ?_ | wp_step)
 refine codeAny_call_builtin_code (Code.quiet_builtin _ F.quiet) (wpAny_check_new_subU F hBn T hC (codeAny_exc_new_subU F hBn F T hC ?_ hz))
 show wpAny _ _ _ _ _ _
 have kp:∀ b o,h.get? b=some o→((h.push {cls:=.type "tuple",data:=.seq us.toArray}).push {cls:=.ref C,data:=.fields #[.ref h.objs.size,.none,.none,.none,.bool false,.none]}).get? b=some o:=fun b o e=>Heap.get?_push_of_some _ (Heap.get?_push_of_some _ e)
 have hg:((h.push {cls:=.type "tuple",data:=.seq us.toArray}).push {cls:=.ref C,data:=.fields #[.ref h.objs.size,.none,.none,.none,.bool false,.none]}).get? (h.objs.size+1)=some {cls:=.ref C,data:=.fields #[.ref h.objs.size,.none,.none,.none,.bool false,.none]}:=by heap_get
 have hC1:=kp _ _ hC
 have hcC:(Value.ref C::bm).contains (.ref C)=true:=by simp
 unfold isInstance
 repeat (first | with_reducible refine wpAny_loadPart_at hg ?_ | (with_reducible refine wpAny_isSubtype_exc hC1 ?_; rw [hcC]) | wp_step)
 show wpAny _ _ (typeLookup (.ref C) _) _ _ _
 refine wpAny_typeLookup_tail hC1 (hn.keeps kp) (T.keeps kp) F.mroIs F.init.lookup ?_
 rw [hi]
 refine wpAny_holding (wpAny_bind ?_)
 unfold bindSpecial
 refine wpAny_bind (wpAny_typeOf (T:="function") ⟨_,kp _ _ hf,hfc⟩ ?_)
 rw [if_pos (by decide)]
 refine wpAny_pure (wpAny_bind (wpAny_mono (k _ (h.objs.size+1) ⟨kp,Heap.get?_none_of_le (Nat.le_succ _),h.objs.size,hg,Heap.get?_none_of_le (Nat.le_refl _),Heap.get?_push_of_some _ (Heap.get?_push_at rfl rfl)⟩) (fun r s' z=>?_) fun _ _ z=>z))
 obtain⟨rfl,z⟩:=z
 wp_walk
 exact z
theorem exc_call_init {Q:Value→Shared→Prop} (T:OwnTail h [.type "ValueError",.type "Exception",.type "BaseException",.type "object"] bm) (hC:h.get? C=some (excClassObj nm q C N bs bm hdct sn sub ab col dd k0 k1 k2 k3 k5 "ValueError.__new__")) (hn:h.Ns N mN)
  (hi:mN "__init__"=some (.ref fI)) (hf:h.get? fI=some oI) (hfc:oI.cls=.type "function") (hz:us.length≤sizeLine)
  (k:∀ h' a,Heap.MadeExcOf h h' a (.ref C) us→wpAny (model prog w) (A.under (.builtin "type.__call__" ⟨.ref C::us,[]⟩)) (call (.ref fI) (.ref a::us)) (fun r s'=>r=.none∧Q (.ref a) s') E ⟨h',g,d,t,os⟩):wpAny (model prog w) A (call (.ref C) us) Q E ⟨h,g,d,t,os⟩:=by
 have f1:=tc_lookup
 have f2:=tc_bind (.ref C)
 have hT:(⟨h,g,d,t,os⟩:Shared).TypeIs (.ref C) "type":=⟨_,hC,rfl⟩
 refine wpAny_call (codeAny_of_tree ?_)
 show wpAny _ _ (callAny (.ref C) _) _ _ _
 repeat (any_goals (first | assumption | with_reducible refine wpAny_loadPart_at hC ?_ | wp_step))
 exact⟨rfl,codeAny_call_builtin_at (Code.quiet_builtin _ (by decide +kernel)) entry_typeCall (wpAny_check_type_call_sub hC (exc_type_init T hC hn hi hf hfc hz fun h' a m=>k h' a m))⟩
end
theorem raise_made {M:Model} {A:Around} {E:Value→Shared→Prop} {s:Shared} {env:Env} {x:Sem Value} {K:PySem.W.Frag} {C:Addr} {Q:Flow→Shared→Prop} (hc:IsCls K C) (hm:PySem.W.mroIn K C (.type "BaseException")=some true) (hh:A.handled=none)
  (h:wpAny M A x (fun v s1=>∃ a oe a0,v=.ref a∧K.In s1.heap∧s1.heap.get? a=some oe∧oe.cls=.ref C∧oe.data=.fields #[a0,.none,.none,.none,.bool false,.none]∧E (.ref a) s1) E s):wpAny M A (raiseStmt env (some x) none) Q E s:=by
 unfold raiseStmt
 refine wpAny_bind (wpAny_mono h (fun v s1 z=>?_) fun _ _ z=>z)
 obtain⟨a,oe,a0,rfl,X,he,hcl,hd,hE⟩:=z
 obtain⟨d',cd',sl',ho⟩:=hc
 obtain⟨hp,g,d,tk,os⟩:=s1
 obtain⟨oc,od,odt,osl⟩:=oe
 dsimp only at hcl hd
 subst hcl hd
 have hO:=X _ _ ho
 have L:=PySem.W.looks_mroIn (M:=M) X hm
 repeat (first | with_reducible refine wpAny_loadPart_at he ?_ | with_reducible refine wpAny_loadPart_at hO ?_ | (with_reducible refine L.at ?_) | wp_step)
 exact wpAny_raiseNew_none hh hE
end L2
namespace L2
open PySem PySem.Spec PyProof.Rows Builtin Builtin.ObjectAttr
def endsVE:List Value→Bool
 | .ref _::r=>endsVE r
 | l=>l==mroVE
theorem endsVE.refs:∀ {l:List Value},endsVE l=true→∃ rs:List Addr,l=rs.map Value.ref++mroVE:=by
 intro l
 induction l with
 | nil=>intro e; cases e
 | cons x r ih=>
  intro e
  unfold endsVE at e
  split at e
  ·rename_i c r' q
   cases q
   obtain⟨rs,rfl⟩:=ih e
   exact⟨c::rs,rfl⟩
  ·exact⟨[],beq_iff_eq.mp e⟩
theorem refuse_VE (self:Value):∀ rs:List Addr,refuseLoop self "__setattr__" (rs.map Value.ref++mroVE)=pure ()
 | []=>PySem.F.store_ValueError.passes self
 | c::r=>(refuseLoop_ref self _ c _).trans (refuse_VE self r)
theorem VE_has:∀ rs:List Addr,(rs.map Value.ref++mroVE).contains (.type "object")=true
 | []=>by decide +kernel
 | c::r=>by rw [List.map_cons,List.cons_append,List.contains_cons,VE_has r,Bool.or_true]
structure XSet (K:PySem.W.Frag) (C:Addr) (n:Str):Prop where
 sa:PySem.W.findIn K (.ref C) "__setattr__"=some (some (.builtin "object.__setattr__"))
 mr:(PySem.W.clsIn K C).any (fun cd=>endsVE cd.mro&&cd.hasDict)=true
 no:PySem.W.takerIn K C n=some none
section
variable {prog:Program} {w:World} {A:Around} {s:Shared} {K:PySem.W.Frag} {x C:Addr} {ox:Obj} {n:Str} {v:Value}
theorem xset_call {R:Result→Shared→Prop} {tk:Tok} (X:K.In s.heap) (F:XSet K C n) (hx:s.heap.get? x=some ox) (hc:ox.cls=.ref C) (hd:ox.dict=none) (hn:PySem.W.notCls ox=true)
  (k:∀ h' tk,h'.get? x=some {ox with dict:=some s.heap.objs.size}→h'.Ns1 s.heap.objs.size (fun y=>if y=n then some v else none)→(∀ b o,b≠x→s.heap.get? b=some o→h'.get? b=some o)→R (.ok (.ret .none)) {s with heap:=h',toks:=tk}) :
  codeAny (model prog w) A (.call (.builtin "object.__setattr__") ⟨[.ref x,.str n tk,v],[]⟩) R s:=by
 have I:PySem.W.InstAt s.heap x ox C none:=⟨hx,hc,hn,by rw [hd]; trivial⟩
 have SF:=PySem.F.store_object
 obtain⟨cd,hcd,ho⟩:=PySem.W.any_some F.mr
 obtain⟨ho,hD⟩:=Bool.and_eq_true_iff.mp ho
 obtain⟨rs,hro⟩:=endsVE.refs ho
 have ne:cd.mro.isEmpty=false:=by rw [hro]; cases rs <;> rfl
 have sub:PySem.W.Looks (model prog w) s.heap (isInstance (.ref x) (.type "object")) true:=I.type.andThen (PySem.W.looks_mroIn X (by unfold PySem.W.mroIn; rw [hcd,Option.bind_some,if_neg (by rw [ne]; decide),hro,VE_has rs]))
 refine codeAny_call_builtin SF.slot.plain SF.entry (@PySem.W.check_slot (model prog w) _ _ s "object.__setattr__" "object" "__setattr__" (.ref x) [.str n tk,v] [] _ SF.kind SF.split sub (SF.args (.ref x) _ v) ?_)
 obtain⟨attr,ha,hr⟩:=Option.bind_eq_some_iff.mp F.no
 have hm:PySem.W.Looks (model prog w) s.heap (mroOf (.ref C)) cd.mro:=(PySem.W.looks_clsIn X hcd).andThen .now
 have L3:PySem.W.Looks (model prog w) s.heap (storeTaker? attr) none:=by
  cases attr with
  | none=>exact .now
  | some a=>
   obtain⟨b,hb,z⟩:=Option.map_eq_some_iff.mp hr
   refine(PySem.W.looks_takesIn X hb).andThen ?_
   cases b
   ·exact .now
   ·cases z
 rw [PySem.W.osa_eq,refuse_eq]
 refine wpAny_bind (wpAny_bind (I.type.here (wpAny_bind (hm.here ?_))))
 rw [hro,refuse_VE]
 refine wpAny_pure (wpAny_bind (I.type.here (wpAny_bind ((PySem.W.looks_findIn X ha).here (wpAny_bind (L3.here ?_))))))
 obtain⟨oc,od,odt,osl⟩:=ox
 dsimp only at hc hd
 subst hc hd
 refine wpAny_bind (wpAny_pure (wpAny_bind (wpAny_bind (wpAny_loadPart hx (wpAny_bind ((PySem.W.looks_clsIn X hcd).here ?_))))))
 have hdi:(!cd.hasDict)=false:=by rw [hD]; rfl
 rw [if_neg (by rw [hdi]; decide)]
 dsimp only
 rw [if_neg (by simp [typeHasDict])]
 have x1:(s.heap.push {cls:=.type "dict",data:=.dict #[]}).get? x=some {cls:=Value.ref C,data:=odt,slots:=osl}:=Heap.get?_push_of_some _ hx
 have xs:x≠s.heap.objs.size:=Nat.ne_of_lt (Heap.lt_size hx)
 have go:wpAny (model prog w) A.in1 (do let d ← alloc {cls:=Value.type "dict",data:=Data.dict #[]}; update x fun o=>{cls:=o.cls,dict:=some d,data:=o.data,slots:=o.slots}; dictMade (Value.ref C) x d) (fun a s'=>wpAny (model prog w) A.in1 (match a with | some d=>storeInDict d (Value.str n tk) n v | none=>noDictFor (Value.ref x) (Value.ref C) n attr.isSome) (fun fin s'=>match fin with | Fin.done f=>R (Except.ok f) s' | Fin.again c'=>c'.quiet=true∧codeAny (model prog w) A c' R s') (fun e s'=>R (Except.error e) s') s') (fun e s'=>R (Except.error e) s') s:=by
  refine wpAny_bind (wpAny_alloc' (wpAny_bind (wpAny_update' x1 (wpAny_pure ?_))))
  have gd:((s.heap.push {cls:=.type "dict",data:=.dict #[]}).update x fun o=>{cls:=o.cls,dict:=some s.heap.objs.size,data:=o.data,slots:=o.slots}).get? s.heap.objs.size=some {cls:=.type "dict",data:=.dict #[]}:=(Heap.get?_update_ne _ _ _ _ xs.symm).trans (Heap.get?_push_at rfl rfl)
  have nd:((s.heap.push {cls:=.type "dict",data:=.dict #[]}).update x fun o=>{cls:=o.cls,dict:=some s.heap.objs.size,data:=o.data,slots:=o.slots}).Ns s.heap.objs.size (fun _=>none):=⟨_,#[],_,gd,rfl,fun e he=>absurd he (by simp),fun _=>rfl⟩
  show wpAny _ _ (storeInDict s.heap.objs.size (.str n tk) n v) _ _ _
  unfold storeInDict newKeyGuard
  refine wpAny_bind (wpAny_pure (wpAny_bind (wpAny_nsSet1 (Heap.Ns1.of_empty nd) fun h' hn' hs=>?_)))
  obtain⟨oD,esD,epD,hoD,hdD,hcD⟩:=hn'.count (Within.cons n v Within.nil)
  refine wpAny_bind (wpAny_lookBehind hoD (by rw [hdD]; exact pastItsLine_dict (Nat.le_trans hcD (by rw [List.length_cons,List.length_nil,sizeLine_eq]; omega))) ?_)
  refine wpAny_pure (k h' _ ((hs.2 x xs).trans (Heap.get?_update_self _ x1 ?_)) hn' fun b o nb hb=>?_)
  ·have fr:=(Heap.get?_some_iff.mp hx).2
   cases odt <;> first | rfl | exact fr
  ·exact(hs.2 b (Nat.ne_of_lt (Heap.lt_size hb))).trans ((Heap.get?_update_ne _ _ _ _ nb).trans (Heap.get?_push_of_some _ hb))
 cases odt <;> first | exact go | cases hn
theorem xset {E:Value→Shared→Prop} {Q:Unit→Shared→Prop} (X:K.In s.heap) (F:XSet K C n) (hx:s.heap.get? x=some ox) (hc:ox.cls=.ref C) (hd:ox.dict=none) (hn:PySem.W.notCls ox=true)
  (k:∀ h' tk,h'.get? x=some {ox with dict:=some s.heap.objs.size}→h'.Ns1 s.heap.objs.size (fun y=>if y=n then some v else none)→(∀ b o,b≠x→s.heap.get? b=some o→h'.get? b=some o)→Q () {s with heap:=h',toks:=tk}) :
  wpAny (model prog w) A (setAttr (.ref x) n v) Q E s:=by
 have I:PySem.W.InstAt s.heap x ox C none:=⟨hx,hc,hn,by rw [hd]; trivial⟩
 exact PySem.W.set_plain X I F.sa (xset_call (s:={s with toks:=s.toks+1}) X F hx hc hd hn fun h' tk a b c=>k h' tk a b c)
end
end L2
set_option maxHeartbeats 8000000
namespace L2
open PySem PySem.Spec PyProof.Rows Builtin Builtin.ObjectAttr
section
variable {prog:Program} {w:World} {A:Around} {E:Value→Shared→Prop} {h:Heap} {g:Array GenState} {d:Drawn} {t:Nat} {os:OsState} {a C dx:Addr} {o:Obj} {K:PySem.W.Frag} {n:Str} {v:Value} {mA:Str→Option Value} {cd:ClassData}
theorem xget_entry {tk:Tok} {Q:Fin→Shared→Prop} (X:K.In h) (F:PySem.W.findIn K (.ref C) n=some none) (hcd:PySem.W.clsIn K C=some cd) (hD:cd.hasDict=true) (hx:h.get? a=some o) (hc:o.cls=.ref C) (hn:PySem.W.notCls o=true) (hd:o.dict=some dx) (hA:h.Ns dx mA) (hv:mA n=some v) (hh:handedOut v=pure v) (q:Q (.done (.ret v)) ⟨h,g,d,t,os⟩) :
  wpAny (model prog w) A (Builtin.«object.__getattribute__» ⟨[.ref a,.str n tk],[]⟩) Q E ⟨h,g,d,t,os⟩:=by
 have L:=PySem.W.looks_findIn (M:=model prog w) X F
 have L2:=PySem.W.looks_clsIn (M:=model prog w) X hcd
 repeat (any_goals (first | assumption | (with_reducible refine wpAny_loadPart_at hx ?_; rw [hc]) | (with_reducible refine L.at ?_) | wp_step))
 have go:wpAny (model prog w) A (instanceDict a false) (fun x s'=>x=some dx∧s'=⟨h,g,d,t,os⟩) E ⟨h,g,d,t,os⟩:=by
  unfold instanceDict
  repeat (first | (with_reducible refine wpAny_loadPart_at hx ?_; rw [hc]) | (with_reducible refine L2.at ?_; rw [hD]) | wp_step)
  rw [hd]
  exact wpAny_pure ⟨rfl,rfl⟩
 have fin:∀ {R:Option Addr→Sem Fin},(wpAny (model prog w) A (R (some dx)) Q E ⟨h,g,d,t,os⟩)→wpAny (model prog w) A (instanceDict a false>>=R) Q E ⟨h,g,d,t,os⟩:=fun {R} k=>wpAny_bind (wpAny_mono go (fun x s' ⟨e1,e2⟩=>by subst e1; subst e2; exact k) fun _ _ z=>z)
 refine wpAny_mono (Q:=fun x s'=>x=some dx∧s'=⟨h,g,d,t,os⟩) ?_ (fun x s' ⟨e1,e2⟩=>?_) fun _ _ z=>z
 ·revert hn
  cases q:o.data <;> intro hn <;> first | exact go | (unfold PySem.W.notCls at hn; rw [q] at hn; cases hn)
 ·subst e1
  subst e2
  unfold inDict
  repeat (first | (with_reducible refine wpAny_nsGet hA ?_; rw [hv]) | (rw [hh]) | wp_step)
  exact q
theorem xget {expr:Bool} {Q:Value→Shared→Prop} (X:K.In h) (F:PySem.W.findIn K (.ref C) n=some none) (LF:ExcLook K C) (hcd:PySem.W.clsIn K C=some cd) (hD:cd.hasDict=true) (hx:h.get? a=some o) (hc:o.cls=.ref C) (hn:PySem.W.notCls o=true) (hd:o.dict=some dx) (hA:h.Ns dx mA) (hv:mA n=some v) (hh:handedOut v=pure v) (q:Q v ⟨h,g,d,t+1,os⟩) :
  wpAny (model prog w) A (getAttr (.ref a) n expr) Q E ⟨h,g,d,t,os⟩:=by
 have f3:=PySem.F.attrBase_ValueError.ga.bind (.ref a)
 have L1:=PySem.W.looks_findIn (M:=model prog w) X LF.ga
 have L2:=PySem.W.looks_findIn (M:=model prog w) X LF.gn
 have hx2:(Value.builtin "BaseException.__getattribute__"==Value.builtin "object.__getattribute__")=false:=by decide +kernel
 have hx1:(onTheHeap (Value.ref C)&&Value.builtin "BaseException.__getattribute__"==Value.builtin "object.__getattribute__")=false:=by rw [hx2]; rfl
 unfold getAttr
 repeat (any_goals (first | assumption | (with_reducible refine wpAny_loadPart_at hx ?_; rw [hc]) | (with_reducible refine L1.at ?_) | (with_reducible refine L2.at ?_) | wp_step))
 rw [if_neg (by rw [show onTheHeap (Value.builtin "BaseException.__getattribute__")=false from rfl,Bool.and_false]; decide)]
 unfold boundAndCalled
 repeat (any_goals (first | assumption | wp_step))
 refine codeAny_call_builtin PySem.F.attrBase_ValueError.ga.plain PySem.F.entry_bexc_ga (xcls_check X LF hx hc (xget_entry X F hcd hD hx hc hn hd hA hv hh ?_))
 repeat (any_goals (first | assumption | (rw [hh]) | wp_step))
end
end L2
set_option maxHeartbeats 4000000
namespace L2
open PySem PySem.Spec PyProof.Rows
def ExcN (C a:Addr):HO:=HO.ext fun h=>∃ a0,h.get? a=some {cls:=.ref C,data:=.fields #[a0,.none,.none,.none,.bool false,.none]}
def ExcD (C a dx:Addr):HO:=HO.ext fun h=>∃ a0,h.get? a=some {cls:=.ref C,dict:=some dx,data:=.fields #[a0,.none,.none,.none,.bool false,.none]}
def del (H:Hp) (a:Addr):Hp:=fun b=>if b=a then none else H b
theorem del_same {H:Hp} {a:Addr}:del H a a=none:=if_pos rfl
theorem del_ne {H:Hp} {a b:Addr} (h:b≠a):del H a b=H b:=if_neg h
section
variable {X:Cx} {pins:List (Addr×Obj)} {σ:St} {H:Hp} {s:Shared} {o value:Expr} {ta tv:TE} {f:Str} {pos pos':Pos}
inductive sFldXI (K:PySem.W.Frag) (f:Str) (D:Ends) (σ:St) (y x:V) (H2:Hp):Prop where
 | mk:∀ a C,x=.ref a→H2 a=some (ExcN C a)→XSet K C f→(∀ dx,H2 dx=none→dx≠a→D.nx σ (upd (upd H2 dx (.xd [(f,y)])) a (ExcD C a dx)))→sFldXI K f D σ y x H2
def sFldX (K:PySem.W.Frag) (ta tv:TE) (f:Str):TS:=fun D σ H=>tv σ H fun y H1=>ta σ H1 fun x H2=>sFldXI K f D σ y x H2
theorem ps_fldX (ha:PE X o ta) (hv:PE X value tv) (hs:swapsWith value (some (.Attribute o f pos')) pos.line X.env=pure false):PS X (.Assign [.Attribute o f pos'] value pos) (sFldX X.K ta tv f):=by
 intro pins s σ H D I h
 refine plainObj_wpAny_Assign_Attribute (thn (hv pins s σ H _ I h) fun u s1 ⟨y,H1,I1,ry,q⟩=>thn (ha pins s1 σ H1 _ I1 q) fun ov s2 ⟨x,H2,I2,rx,q2⟩=>?_) hs
 obtain⟨a,C,ex,ea,F,k⟩:=q2
 subst ex
 obtain rfl:ov=Value.ref a:=rx
 obtain⟨⟨a0,hx⟩,_,_⟩:=I2.hok a _ ea
 have fr:H2 s2.heap.objs.size=none:=I2.hok.fresh (Nat.le_refl _)
 have ne:s2.heap.objs.size≠a:=Nat.ne_of_gt (Heap.lt_size hx)
 refine xset I2.kIn F hx rfl rfl rfl fun h' tk e1 e2 e3=>⟨σ,_,I2.un (t':=tk) ⟨fun b ob q n hb _=>?_,fun b ob q n hb _=>?_,fun b ob q n _=>?_,fun b ob q _=>?_,fun b xs q=>?_,fun b oo u q=>?_,fun b ps q=>?_⟩ ?_,k _ fr ne⟩
 ·exact e3 b ob (fun z=>by rw [z,ea] at n; cases n) q
 ·exact⟨ob.slots,e3 b ob (fun z=>by rw [z,ea] at n; cases n) q⟩
 ·have n1:b≠a:=fun z=>by rw [z,ea] at n; cases n
  have n2:b≠s2.heap.objs.size:=Nat.ne_of_lt (Heap.lt_size q)
  rw [upd_ne n1,upd_ne n2]; exact n
 ·by_cases z:b=a
  ·rw [z]; exact⟨_,e1⟩
  ·exact⟨_,e3 b ob z q⟩
 ·have n1:b≠a:=fun z=>by rw [z,ea] at q; cases q
  rw [upd_ne n1,upd_ne (ne_of_none q fr)]; exact q
 ·have n1:b≠a:=fun z=>by rw [z,ea] at q; cases q
  rw [upd_ne n1,upd_ne (ne_of_none q fr)]; exact q
 ·have n1:b≠a:=fun z=>by rw [z,ea] at q; cases q
  exact⟨#[],by rw [upd_ne n1,upd_ne (ne_of_none q fr),q]; simp⟩
 ·intro b u q
  by_cases z:b=a
  ·subst z
   rw [upd_same] at q
   cases q
   exact⟨⟨a0,e1⟩,⟨_,e1⟩,fun h1 h2 ⟨a1,z1⟩ kk=>⟨a1,kk _ z1⟩⟩
  ·rw [upd_ne z] at q
   by_cases z2:b=s2.heap.objs.size
   ·subst z2
    rw [upd_same] at q
    cases q
    refine⟨_,e2,fun g=>?_⟩
    by_cases hg:g=f
    ·subst hg
     simp [List.lookup,RelO]
     exact ry
    ·have : (g==f)=false:=beq_eq_false_iff_ne.mpr hg
     simp [List.lookup,this,hg,RelO]
   ·rw [upd_ne z2] at q
    refine(I2.hok b u q).stay (fun c w hc e=>e3 c w (fun y=>?_) e) (fun c e=>?_) fun c xs e=>?_
    ·subst y
     rcases hc with hc | hc
     ·exact z hc.symm
     ·rw [ea] at hc; cases hc
    ·rw [upd_ne (fun y=>by rw [y,ea] at e; cases e),upd_ne (ne_of_none e fr)]; exact e
    ·rw [upd_ne (fun y=>by rw [y,ea] at e; cases e),upd_ne (ne_of_none e fr)]; exact e
end
section
variable {X:Cx} {o:Expr} {ta:TE} {f:Str} {pos:Pos}
structure XGet (K:PySem.W.Frag) (C:Addr) (f:Str):Prop where
 lk:ExcLook K C
 no:PySem.W.findIn K (.ref C) f=some none
 hd:(PySem.W.clsIn K C).any (fun cd=>cd.hasDict)=true
inductive tFldXI (K:PySem.W.Frag) (f:Str) (Q:VK) (x:V) (H1:Hp):Prop where
 | mk:∀ a C dx fs i,x=.ref a→H1 a=some (ExcO C a (some dx))→H1 dx=some (.xd fs)→XGet K C f→fs.lookup f=some (.int i)→Q (.int i) H1→tFldXI K f Q x H1
def tFldX (K:PySem.W.Frag) (ta:TE) (f:Str):TE:=fun σ H Q=>ta σ H fun x H1=>tFldXI K f Q x H1
theorem pe_fldX (he:PE X o ta) (hb:attributeBase o f X.env (eval o X.env)=eval o X.env):PE X (.Attribute o f pos) (tFldX X.K ta f):=by
 intro pins s σ H Q I h
 refine attr_of hb (thn (he pins s σ H _ I h) fun u s1 ⟨x,H1,I1,rx,q⟩=>?_)
 obtain⟨a,C,dx,fs,i,ex,ea,ed,G,l,q⟩:=q
 subst ex
 obtain rfl:u=Value.ref a:=rx
 obtain⟨⟨oe,hx,hc,hd,nc⟩,_,_⟩:=I1.hok a _ ea
 obtain⟨mA,hA,rel⟩:=I1.hok dx _ ed
 have r:=rel f
 rw [l] at r
 cases hv:mA f with
 | none=>rw [hv] at r; cases r
 | some v=>
  rw [hv] at r
  obtain⟨tk,rfl⟩:=(show RelV (.int i) v from r)
  obtain⟨cd,hcd,hD⟩:=PySem.W.any_some G.hd
  obtain⟨hp,g,d,t,os⟩:=s1
  exact xget I1.kIn G.no G.lk hcd hD hx hc nc hd hA.ns hv rfl ⟨.int i,H1,I1.tok (t+1),⟨tk,rfl⟩,q⟩
end
structure ExcClsI (K:PySem.W.Frag) (mg:Str→Option Value) (x:Str) (C fI:Addr):Prop where
 bound:mg x=some (.ref C)
 cls:IsCls K C
 base:PySem.W.mroIn K C (.type "BaseException")=some true
 fn:∃ oI,K.lookup fI=some oI∧oI.cls=.type "function"
 obj:∀ h:Heap,K.In h→∃ bm N nm q bs hdct sn sub ab col dd k0 k1 k2 k3 k5 mN,h.get? C=some (excClassObj nm q C N bs bm hdct sn sub ab col dd k0 k1 k2 k3 k5 "ValueError.__new__")∧h.Ns N mN∧mN "__init__"=some (.ref fI)∧OwnTail h mroVE bm
inductive tRaiseII (C:Addr) (sp:Sp) (E:XK) (vs:List V) (H1:Hp):Prop where
 | mk:vs.length≤sizeLine→(∀ a,H1 a=none→sp (.ref a::vs) (upd H1 a (ExcN C a)) (fun v H2=>v=.non∧∃ dx,H2 a=some (ExcD C a dx)∧E (.ref C) (some dx) (del H2 a)) E0)→tRaiseII C sp E vs H1
def tRaiseI (C:Addr) (sp:Sp) (E:XK) (t:TA):TS:=fun _ σ H=>t σ H fun vs H1=>tRaiseII C sp E vs H1
theorem ps_raiseI {X:Cx} {E:XK} {x:Str} {C fI:Addr} {fd:FuncData} {k:Nat} {ps:List Str} {sp:Sp} {np cpos pos:Pos} {e:Expr} {es:List Expr} {t:TA} (fr:Framed X) (hc:X.calm=true) (O:ExcClsI X.K X.mg x C fI) (F:FnOk X.prog X.w X.K X.mg X.base CX0 k fI fd ps sp) (hb:Binds X.K fd ps []) (hr:Room (k+1) X.A)
  (hg:Gl X x) (ha:PA (X.exc E) (e::es) t)
  (hdb:(x==("__debug__":Str))=false:=by decide) (he:starEach (e::es) X.env=(false,eval e X.env)::starEach es X.env:=by rfl) (hpl:(backTo cpos (starEach es X.env)).any (·.1)=false:=by rfl) :
  PS (X.exc E) (.Raise (some (.Call (.Name x np) (e::es) [] cpos)) none pos) (tRaiseI C sp E t):=by
 intro pins s σ H D I h
 rw [arm_exec_Raise]
 refine wpAny_bind (wpAny_standAt (raise_made O.cls O.base (I.ok.hd hc) (wpAny_bind (wpAny_mono (wpAny_Call_ofName (ld_glob I hg O.bound ?_ hdb)) (fun v s₃ h₃=>wpAny_bind (wpAny_standAt (wpAny_pure h₃))) fun _ _ z=>z))))
 have O0:=O.obj X.base I.ok.mod.kin
 obtain⟨bm,N,nm,q,bs,hdct,sn,sub,ab,col,dd,k0,k1,k2,k3,k5,mN,hC,hN,hi,T⟩:=O0
 obtain⟨oI,lI,cI⟩:=O.fn
 have h1:=ha cpos pins s σ H _ I h
 rw [show (X.exc E).env=X.env from rfl,he] at h1 ⊢
 unfold callWith
 refine wpAny_bind (wpAny_holding (Calls.evalArgs_plain (wpAny_mono h1 (fun us s2 z=>wpAny_bind (wpAny_standAt ?_)) fun _ _ z=>z)))
 obtain⟨ws,H2,I2,rv,hz,kk⟩:=z
 have hk:∀ b o,X.base.get? b=some o→s2.heap.get? b=some o:=I2.bk
 have hpl2:(backTo cpos ((false,eval e X.env)::starEach es X.env)).any (·.1)=false:=by
  show (false||(backTo cpos (starEach es X.env)).any (·.1))=false
  rw [hpl]; rfl
 simp only [hpl2]
 have I3:Inv X [] σ H2 s2:=I2.unwish.pins_of fun p hp=>by simp at hp
 refine(?_:∀ s2':Shared,s2'=s2→wpAny (model X.prog X.w) X.A _ _ _ s2') s2 rfl
 rintro⟨hp,g,d,tk,os⟩ e2
 subst e2
 refine wpAny_bind (wpAny_keeperOf_exc (hk _ _ hC) ?_)
 refine wpAny_bind (exc_call_init (T.keeps hk) (hk _ _ hC) (hN.keeps hk) hi (I3.kIn _ _ lI) cI (by show us.length≤sizeLine; rw [← rv.length]; exact hz) fun h' a m=>?_)
 obtain⟨tt,g1,g2,g3⟩:=m.there
 have lo:Loose X [] H2 a:=I3.loose m.new
 have I4:Inv X [] σ (upd H2 a (ExcN C a)) ⟨h',g,d,tk,os⟩:=(I3.kept (t':=tk) m.keeps).trackO lo ⟨⟨_,g1⟩,⟨_,g1⟩,fun h1 h2 ⟨a1,z1⟩ k1=>⟨a1,k1 _ z1⟩⟩
 have q:=kk a lo.un
 have r2:Vals (V.ref a::ws) (Value.ref a::us):=.cons rfl rv
 have hl:(Value.ref a::us++[]).length=ps.length:=by
  have e:=r2.length
  rw [F.len _ _ _ _ q] at e
  rw [List.append_nil]
  exact e.symm
 have hb2:=hb ⟨h',g,d,tk,os⟩ (Value.ref a::us) I4.kIn hl
 rw [List.append_nil] at hb2
 refine wpAny_call (codeAny_mono (F.run _ X.stack ⟨h',g,d,tk,os⟩ _ ⟨Value.ref a::us,[]⟩ (Value.ref a::us) _ _ E0 (hr.make C us []) (I4.env0.make C us []) hb2 r2 q) fun r s' hq=>?_)
 cases r with
 | error e=>exact False.elim hq
 | ok fl=>
  cases fl with
  | next=>exact False.elim hq
  | brk=>exact False.elim hq
  | cont=>exact False.elim hq
  | ret u=>
   obtain⟨v,H',I5,ru,ev,dx,hD,hE⟩:=I4.after hq
   subst ev
   refine⟨ru,wpAny_bind (wpAny_holding (wpAny_point (wpAny_pure ?_)))⟩
   obtain⟨⟨a1,ha1⟩,_,_⟩:=I5.hok a _ hD
   have na:∀ b u,H' b=some u→(∀ φ,u≠.ext φ)→b≠a:=fun b u q n z=>by rw [z,hD] at q; exact n _ (Option.some.inj q).symm
   have I6:Inv X [] σ (del H' a) s':=by
    refine⟨I5.ok,I5.os,I5.bare,⟨I5.base.keep,I5.base.slot,fun b o q n hx=>?_,I5.base.there,fun b xs q=>?_,fun b o u q=>?_,fun b ps q=>?_⟩,I5.loc,I5.cell,?_,fun x c hc=>?_,fun p hp=>?_,fun b u q=>?_,I5.len⟩
    ·have z:=I5.base.free b o q n hx
     unfold del; split
     ·rfl
     ·exact z
    ·have z:=I5.base.tups b xs q
     rw [del_ne (na b _ z fun _ y=>nomatch y)]; exact z
    ·have z:=I5.base.frzs b o u q
     rw [del_ne (na b _ z fun _ y=>nomatch y)]; exact z
    ·obtain⟨m,z⟩:=I5.base.tbls b ps q
     exact⟨m,by rw [del_ne (na b _ z fun _ y=>nomatch y)]; exact z⟩
    ·unfold del; split
     ·rfl
     ·exact I5.free
    ·unfold del; split
     ·rfl
     ·exact I5.freeC x c hc
    ·obtain⟨e1,n,r⟩:=I5.pin p hp
     exact⟨e1,by unfold del; split <;> first | rfl | exact n,r⟩
    ·by_cases z:b=a
     ·rw [z,del_same] at q; cases q
     ·rw [del_ne z] at q
      exact(I5.hok b u q).stay (fun _ _ _ e=>e) (fun c e=>by rw [del_ne (na c _ e fun _ y=>nomatch y)]; exact e) fun c xs e=>by rw [del_ne (na c _ e fun _ y=>nomatch y)]; exact e
   obtain⟨L,env0,rest,f1,f2,f3⟩:=fr
   exact⟨a,_,a1,rfl,I5.kIn,ha1,rfl,rfl,a,L,.ref C,some dx,σ,_,none,[a],env0,rest,rfl,f1,f2,f3,I6,.made ha1 rfl rfl rfl rfl rfl,trivial,fun b hb=>by rw [List.mem_singleton.mp hb]; exact⟨del_same,lo.new,lo.loc,lo.cel,lo.pin⟩,hE⟩
def Kept (outer:List Env) (s0:Shared) (H0:Hp) (s:Shared) (H:Hp):Prop:=∀ b o,s0.heap.get? b=some o→H0 b=none→b∉frs outer→s.heap.get? b=some o∧H b=none
structure LamOk (P:Program) (w:World) (K:PySem.W.Frag) (mg:Str→Option Value) (base:Heap) (k:Nat) (outer0:List Env) (s0:Shared) (H0:Hp) (f:Addr) (spL:Hp→VK→XK→Prop):Prop where
 fn:∃ o fd,s0.heap.get? f=some o∧o.data=.func fd∧H0 f=none∧f∉frs outer0
 run:∀ (A:Around) (outer:List Env) (s:Shared) (H:Hp) (Q:VK) (E:XK),Room k A→Env0 P w K mg base A outer s H→Kept outer0 s0 H0 s H→spL H Q E→codeAny (model P w) A (.call (.ref f) ⟨[],[]⟩) (CR (CX1 P w) outer P w H s Q E) s
inductive tLamI (i:Nat) (f:Addr) (spL:Hp→VK→XK→Prop) (E:XK) (σ:St) (H:Hp) (Q:VK):Prop where
 | mk:σ[i]? = some (some (.ref f))→spL H Q E→tLamI i f spL E σ H Q
def tLam (i:Nat) (f:Addr) (spL:Hp→VK→XK→Prop) (E:XK):TE:=fun σ H Q=>tLamI i f spL E σ H Q
theorem pe_lam {X:Cx} {E:XK} {i k:Nat} {x:Str} {f:Addr} {spL:Hp→VK→XK→Prop} {p pos:Pos} (hex:X.ex=[]) (fr:Framed X) (L:LamOk X.prog X.w X.K X.mg X.base k X.outer X.s₀ X.H₀ f spL) (hr:Room k X.A) (hN:X.N[i]? = some x) (hv:Vis X.env.scope x)
  (hd:(x==("__debug__":Str))=false) (hcd:(x==("__classdict__":Str))=false):PE (X.exc E) (.Call (.Name x p) [] [] pos) (tLam i f spL E):=by
 intro pins s σ H Q I h
 obtain⟨e,h⟩:=h
 refine wpAny_Call_Name_kw (thn (pe_var (X:=X.exc E) (pos:=p) hN hv hd hcd pins s σ H (fun v H'=>v=.ref f∧H'=H) I ⟨_,e,rfl,rfl⟩) fun u s1 ⟨v,H1,I1,r,ev,eh⟩=>?_)
 subst ev
 obtain rfl:H1=H:=eh
 obtain rfl:u=Value.ref f:=r
 have J:Inv X pins σ H1 s1:=I1.unwish
 have kp:Kept X.outer X.s₀ X.H₀ s1 H1:=fun b o q n nf=>⟨J.base.keep b o q n nf (by rw [hex]; simp),J.base.free b o q n (by rw [hex]; simp)⟩
 obtain⟨⟨oc,od,odt,osl⟩,fd,q1,q2,q3,q4⟩:=L.fn
 cases q2
 have at1:=(kp f _ q1 q3 q4).1
 refine PySem.W.callWith_F0 (first:=[]) ⟨_,_,_,_,at1⟩ ?_
 refine wpAny_call (codeAny_mono (L.run X.A X.stack s1 H1 Q E hr J.env0 kp h) fun r s' hq=>?_)
 cases r with
 | error e=>exact passes1 fr pins σ H1 s1 e s' I1 hq
 | ok fl=>
  cases fl with
  | next=>exact False.elim hq
  | brk=>exact False.elim hq
  | cont=>exact False.elim hq
  | ret u=>exact I1.after hq
def DefZ (P:Program) (w:World) (K:PySem.W.Frag) (mg:Str→Option Value) (base:Heap) (x:Str) (k:Nat) (ps:List Str) (Z:List Env→Shared→Hp→Prop) (sp:Sp):Prop:=
 ∃ f fd,mg x=some (.ref f)∧PySem.W.keepIn K (.ref f)=true∧Binds K fd ps []∧(∀ vs H Q E,sp vs H Q E→vs.length=ps.length)∧
  ∀ (A:Around) (outer:List Env) (s:Shared) (H:Hp) (us:List Value) (vs:List V) (Q:VK) (E:XK),Room k A→Env0 P w K mg base A outer s H→BindsTo s fd ⟨us,[]⟩ (ps.zip us)→Vals vs us→Z outer s H→sp vs H Q E→
   codeAny (model P w) A (.call (.ref f) ⟨us,[]⟩) (CR CX0 outer P w H s Q E) s
theorem FunAt.mkZ {P:Program} {w:World} {K:PySem.W.Frag} {mg:Str→Option Value} {base:Heap} {x:Str} {st:Stmt} {N ps:List Str} {k:Nat} {Z:List Env→Shared→Hp→Prop} {sp:Sp} (F:FunAt K mg x st ps) (S:FnScope N ps (defScope st)) (len:∀ vs H Q E,sp vs H Q E→vs.length=ps.length)
  (hbody:∀ (f:Addr) (cdv:Value) (A:Around) (outer:List Env) (s:Shared) (H:Hp) (vs:List V) (Q:VK) (E:XK),Room k (A.deeper (envOfC x (defScope st) s.heap.objs.size f cdv))→Z outer s H→sp vs H Q E→
   ∃ t,PSs (cxOf CX0 P w K mg base N x (defScope st) f cdv A outer s H E).nox (defBody st) t∧t {nx:=fun _ H'=>Q .non H',rt:=Q} (start N vs) H):DefZ P w K mg base x (k+1) ps Z sp:=by
 obtain⟨f,fd,Fn,hm,hb⟩:=F.ex
 refine⟨f,fd,hm,Fn.kp,hb,len,fun A outer s H us vs Q E hr e0 hbd r hz hsp=>?_⟩
 obtain⟨oc,od,kV,doc,pm,an,cdv,ct,osl,rfl,lk,hcd⟩:=Fn.ex
 have fo:FnOk P w K mg base CX0 (k+1) f (PySem.W.fnOf x x (defArgs st) (defBody st) (defScope st) .none kV doc pm an cdv ct) ps (fun vs' H' Q' E'=>vs'=vs∧H'=H∧Q'=Q∧E'=E)→True:=fun _=>trivial
 have hl:=len _ _ _ _ hsp
 have KX:K.In s.heap:=e0.mod.kin.keeps fun b o e=>(e0.bs b o e).1
 have lim:s.heap.NoLimit:=e0.mod.nolimit.keeps fun b o e=>(e0.bs b o e).1
 have hkind:∀ y∈ps.zip us,(defScope st).names.lookup y.1=some .local∨((defScope st).names.lookup y.1=some .cell∧((cellsFrom (s.heap.objs.size+1) (defScope st).names []).lookup y.1).isSome=true):=fun ⟨n,v⟩ hy=>by
  rcases S.par n (List.of_mem_zip hy).1 with q | q
  ·exact .inl q
  ·exact .inr ⟨q,PySem.W.cellsFrom_some _ _ _ (.inl q)⟩
 refine codeAny_call_function hr.depth (KX _ _ lk) rfl S.co S.gen rfl (PySem.W.codeRec_of KX hcd) (hbd _ _ _ _ ?_)
 refine wpAny_newFunctionEnv_cells S.kind hkind fun env he s1 x1=>?_
 subst he
 refine⟨lim.keeps x1.toInCall.keep,codeAny_func ?_⟩
 obtain⟨t,ht,hq⟩:=hbody f cdv A outer s H vs Q E (hr.deeper _) hz hsp
 have I:Inv (cxOf CX0 P w K mg base N x (defScope st) f cdv A outer s H E) [] (start N vs) H s1:=inv_start S hr.hd e0 hl r x1
 refine wpAny_mono (ht.nox [] s1 (start N vs) H _ I hq) (fun fl s' hs=>?_) fun e s' hs=>hs
 have fin:∀ {σ':St} {H':Hp} {v:V} {u:Value},Inv (cxOf CX0 P w K mg base N x (defScope st) f cdv A outer s H E) [] σ' H' s'→RelV v u→Q v H'→CE outer P w H s Q u s':=
  fun {σ' H' v u} J rv q=>⟨v,H',J.os,J.bare,J.base,J.hok,rv,q⟩
 cases fl with
 | ret u=>
  obtain⟨v,σ',H',J,rv,q⟩:=hs
  exact fin J rv q
 | next=>
  obtain⟨σ',H',J,q⟩:=hs
  exact fin (v:=V.non) (u:=Value.none) J rfl q
 | brk=>
  obtain⟨_,_,_,q⟩:=hs
  exact False.elim q
 | cont=>
  obtain⟨_,_,_,q⟩:=hs
  exact False.elim q
abbrev envX:=@PySem.W.envX
def cxLam (P:Program) (w:World) (K:PySem.W.Frag) (mg:Str→Option Value) (base:Heap) (N:List Str) (qual:Str) (scope:Scope) (cl:List (Str×Addr)) (f:Addr) (cd:Value) (A:Around) (outer:List Env) (s:Shared) (H:Hp) (E:XK):Cx where
 prog:=P
 w:=w
 K:=K
 mg:=mg
 base:=base
 A:=A.deeper (envX qual scope s.heap.objs.size f cd cl)
 N:=N
 s₀:=s
 H₀:=H
 env:=envX qual scope s.heap.objs.size f cd cl
 outer:=outer
 stack:=envX qual scope s.heap.objs.size f cd cl::outer
 ex:=[]
 calm:=true
 fn:=fun _=>false
 pn:=[]
 xe:=fun e s'=>wpAny (model P w) (A.deeper (envX qual scope s.heap.objs.size f cd cl)) (leaving (envX qual scope s.heap.objs.size f cd cl) e) (fun _ s''=>CX1 P w outer H s E e s'') (fun e' s''=>CX1 P w outer H s E e' s'') s'
structure Clos (scope:Scope) (cl:List (Str×Addr)) (N:List Str) (σ:St) (s:Shared) (H:Hp):Prop where
 kind:scope.kind=.function
 co:scope.isCoroutine=false
 gen:scope.isGenerator=false
 nocell:∀ x∈scope.names,x.2≠.cell
 cell:∀ x c,cl.lookup x=some c→(∃ v,s.heap.IsCell c v)∧H c=none
 inj:∀ x y c,cl.lookup x=some c→cl.lookup y=some c→x=y
 has:∀ x,scope.names.lookup x=some .cell∨scope.names.lookup x=some .free→∃ c,cl.lookup x=some c
 len:σ.length=N.length
 val:∀ (i:Nat) (x:Str) (v:V),N[i]? = some x→σ[i]? = some (some v)→scope.names.lookup x=some .free∧∃ c u,cl.lookup x=some c∧s.heap.IsCell c (some u)∧RelV v u
section
variable {P:Program} {w:World} {K:PySem.W.Frag} {mg:Str→Option Value} {base:Heap} {N:List Str} {name qual:Str} {scope:Scope} {cl:List (Str×Addr)} {f c':Addr} {pm ctv:Value} {A:Around} {outer:List Env} {s:Shared} {H:Hp} {E:XK} {Q:VK} {σ:St} {body:Expr} {te:TE} {k:Nat}
abbrev noPar:Arguments:={posonlyargs:=[],args:=[],vararg:=none,kwonlyargs:=[],kw_defaults:=[],kwarg:=none,defaults:=[]}
theorem inv_lam {h1:Heap} {tk:Nat} {m:Str→Option Value} {cd:Value} (C:Clos scope cl N σ s H) (hd:A.handled=none) (e0:Env0 P w K mg base A outer s H) (hns:h1.Ns s.heap.objs.size m) (hk:∀ b o,s.heap.get? b=some o→h1.get? b=some o) :
  Inv (cxLam P w K mg base N qual scope cl f cd A outer s H E) [] σ H {s with heap:=h1,toks:=tk}:=by
 have kc:∀ c v,s.heap.IsCell c v→h1.IsCell c v:=fun c v ⟨o,q,d⟩=>⟨o,hk c o q,d⟩
 refine⟨⟨e0.mod,C.kind,rfl,rfl,Nat.le_refl _,fun x y c a b=>C.inj x y c a b,fun x h=>C.has x h,(fun x c h=>nomatch h),fun _=>hd,Around.frames_deeper e0.frames,.inr ⟨rfl,rfl⟩,(fun b z=>nomatch z),e0.bs,e0.bsz,(fun b _ _ z=>nomatch z),(fun b z=>nomatch z),e0.funs,e0.frf⟩,
  rfl,e0.bare,Un.kept hk,⟨m,hns,fun i x v a b _=>?_⟩,fun x c h=>?_,e0.hok.fresh (Nat.le_refl _),fun x c h=>(C.cell x c h).2,(fun p hp=>nomatch hp),e0.hok.kept hk,C.len⟩
 ·obtain⟨q1,c,u,q2,q3,q4⟩:=C.val i x v a b
  exact⟨u,q4,.inr ⟨.inr q1,c,q2,kc _ _ q3⟩⟩
 ·obtain⟨⟨v,z⟩,_⟩:=C.cell x c h
  exact⟨v,kc _ _ z⟩
theorem lam_run (ho:s.heap.get? f=some (PySem.W.kla_obj name qual noPar body scope cl pm c' ctv)) (hcd:s.heap.CodeRec (.ref c') qual) (hr:Room (k+1) A) (e0:Env0 P w K mg base A outer s H) (C:Clos scope cl N σ s H)
  (hb:Room k (A.deeper (envX qual scope s.heap.objs.size f (.ref c') cl))→PE ((cxLam P w K mg base N qual scope cl f (.ref c') A outer s H E).exc E) body te) (hq:te σ H Q):codeAny (model P w) A (.call (.ref f) ⟨[],[]⟩) (CR (CX1 P w) outer P w H s Q E) s:=by
 have lim:s.heap.NoLimit:=e0.mod.nolimit.keeps fun b o e=>(e0.bs b o e).1
 refine PySem.W.kla_callFunE hr.depth ho rfl C.co C.gen rfl hcd ?_
 rw [show bindArgs (PySem.W.kla_fn name qual noPar body scope cl pm (.ref c') ctv) ⟨[],[]⟩=pure [] from rfl]
 refine wpAny_pure (wpAny_newFunctionEnv C.nocell (fun y hy=>nomatch hy) (fun h1 hns hsb=>⟨lim.fresh _ hsb,?_⟩) C.kind)
 have hk:∀ b o,s.heap.get? b=some o→h1.get? b=some o:=fun b o e=>hsb.extBut b o (Nat.ne_of_lt (Heap.lt_size e)) (Heap.get?_push_of_some _ e)
 refine PySem.W.kla_codeExpr ?_
 have I:∀ tk,Inv (cxLam P w K mg base N qual scope cl f (.ref c') A outer s H E) [] σ H {s with heap:=h1,toks:=tk}:=fun tk=>inv_lam C hr.hd e0 hns hk
 refine wpAny_mono (hb (hr.deeper _) [] _ σ H Q ((I _).wish _) hq) (fun u s' z=>?_) fun e s' z=>?_
 ·obtain⟨v,H',J,r,q⟩:=z
  exact⟨v,H',J.os,J.bare,J.base,J.hok,r,q⟩
 ·have z:XE (cxLam P w K mg base N qual scope cl f (.ref c') A outer s H E) E e s':=z
  refine wpAny_mono z.leave (fun _ s3 z3=>?_) fun _ _ z=>z
  obtain⟨a,L,cls,dx,σ',H',fl,S',env0,rest,rfl,hs,hf0,hf,I',ex,hp',hS,hE⟩:=z3
  obtain rfl:fl=some .none:=hp'
  refine⟨a,cls,dx,H',S',rfl,I'.os,I'.bare,I'.base,I'.hok,ex,fun b hb=>⟨(hS b hb).un,?_⟩,hE⟩
  rcases(hS b hb).new with z | z
  ·exact absurd (show b∈([]:List Addr) from z) (by simp)
  ·exact z
end
theorem triples_app:∀ {l:List Value} {a b:Nat} {v:Value},TriplesOk l→TriplesOk (l++[rawInt a,rawInt b,v])
 | [],_,_,_,_=>trivial
 | .int _ _::.int _ _::_::r,_,_,_,h=>triples_app (l:=r) h
theorem among_app:∀ {l:List Value} {a b:Nat} {v cv:Value} {q:Pos},TriplesOk l→codeAmong q (l++[rawInt a,rawInt b,v])=some cv→codeAmong q l=some cv∨cv=v
 | [],a,b,v,cv,q,_,h=>by
  have h:(if (((a:Int)==q.line)&&((b:Int)==q.col))=true then some v else none)=some cv:=h
  split at h
  ·exact .inr (Option.some.inj h).symm
  ·cases h
 | .int i _::.int j _::c::r,a,b,v,cv,q,ht,h=>by
  have h:(if ((i==q.line)&&(j==q.col))=true then some c else codeAmong q (r++[rawInt a,rawInt b,v]))=some cv:=h
  show (if ((i==q.line)&&(j==q.col))=true then some c else codeAmong q r)=some cv∨cv=v
  split at h
  ·rename_i z
   rw [if_pos z]; exact .inl h
  ·rename_i z
   rw [if_neg z]; exact among_app (l:=r) ht h
def CodeO (c:Addr) (qual:Str):HO:=HO.ext fun h=>h.CodeRec (.ref c) qual
def TblOk (H:Hp) (T:Addr) (qual:Str):Prop:=∃ ps,H T=some (.tbl ps)∧TriplesOk ps.toList∧∀ q cv,codeAmong q ps.toList=some cv→∃ c,cv=.ref c∧H c=some (CodeO c qual)
inductive tCallLI (T:Addr) (qual:Str) (sp:Addr→(Hp→VK→XK→Prop)→Sp) (te:XK→TE) (js:List Nat) (σ:St) (H:Hp) (Q:VK):Prop where
 | mk:TblOk H T qual→(∀ j∈js,∃ v,σ[j]? = some (some v))→(∀ f H',H' f=none→SameX T H H'→TblOk H' T qual→sp f (fun H1 Q1 E1=>Same H' H1∧te E1 (js.map fun j=>(σ[j]?).join) H1 Q1) [.ref f] H' Q E0)→tCallLI T qual sp te js σ H Q
def tCallL (T:Addr) (qual:Str) (sp:Addr→(Hp→VK→XK→Prop)→Sp) (te:XK→TE) (js:List Nat):TE:=fun σ H Q=>tCallLI T qual sp te js σ H Q
structure LamSc (N:List Str) (js:List Nat) (XN:List Str) (xsc scope:Scope):Prop where
 kind:scope.kind=.function
 co:scope.isCoroutine=false
 gen:scope.isGenerator=false
 nocell:∀ x∈scope.names,x.2≠.cell
 free:∀ x∈scope.names,x.2=.free→xsc.names.lookup x.1=some .cell
 len:js.length=N.length
 at_:∀ (i:Nat) (x:Str),N[i]? = some x→∃ j:Nat,js[i]? = some j∧XN[j]? = some x
 nfree:∀ x∈N,scope.names.lookup x=some .free∧xsc.names.lookup x=some .cell
theorem pe_callL {X:Cx} {x:Str} {k kL:Nat} {ps:List Str} {sp:Addr→(Hp→VK→XK→Prop)→Sp} {p pos lpos:Pos} {body:Expr} {scope:Scope} {N:List Str} {js:List Nat} {te:XK→TE} {c T:Addr}
  (D:∀ f spL,DefZ X.prog X.w X.K X.mg X.base x k ps (fun outer s H=>LamOk X.prog X.w X.K X.mg X.base (kL+1) outer s H f spL) (sp f spL)) (hr:Room k X.A) (hg:Gl X x) (hc:X.env.code=.ref c) (hC:PySem.W.CodeHd X.base c T) (hB:X.base.BuiltinsAt X.mg T) (S:LamSc N js X.N X.env.scope scope) (hex:X.ex=[]) (hfn:∀ x,X.fn x=true)
  (hb:∀ cl f cd A outer s H E,Room kL (A.deeper (envX (X.env.qual++"<lambda>") scope s.heap.objs.size f cd cl))→PE ((cxLam X.prog X.w X.K X.mg X.base N (X.env.qual++"<lambda>") scope cl f cd A outer s H E).exc E) body (te E))
  (hdb:(x==("__debug__":Str))=false) (hst:starEach [.Lambda noPar body scope lpos] X.env=[(false,eval (.Lambda noPar body scope lpos) X.env)]:=by rfl) :
  PE X (.Call (.Name x p) [.Lambda noPar body scope lpos] [] pos) (tCallL T (X.env.qual++"<lambda>") sp te js):=by
 intro pins s σ H Q I h
 obtain⟨⟨tb,hT,ht,hent⟩,hj,kk⟩:=h
 obtain⟨cl,hcl,c1,c2⟩:=closure_ok (scope:=scope) (env:=X.env) fun y hy hf=>I.ok.has y.1 (.inl (S.free y hy hf))
 have hTs:s.heap.get? T=some (PySem.W.tabObj tb):=I.hok T _ hT
 have gG:mainGlobals≠T:=fun z=>by
  obtain⟨o,es,ep,e1,e2,_⟩:=I.ok.mod.glob
  have:=(I.bs _ _ e1).2
  rw [z,hT] at this; cases this
 have gN:s.heap.Ns mainGlobals X.mg:=I.ok.mod.glob.keeps I.bk
 have hBs:s.heap.BuiltinsAt X.mg T:=by
  obtain⟨bm,ob,b1,b2,b3,b4,b5,b6⟩:=hB
  exact⟨bm,ob,b1,b2,b3,b4,I.bk _ _ b5,b6⟩
 have frT:∀ b∈frs X.stack,b<s.heap.objs.size:=fun b hb=>by
  obtain⟨_,o,e,_⟩:=I.stack.mem hb
  exact Heap.lt_size e
 have celF:∀ y c,X.env.cells.lookup y=some c→c∉frs X.stack:=fun y c e hb=>by
  rcases List.mem_cons.mp (I.stkSub c hb) with z | z
  ·exact I.cne y c e z
  ·obtain⟨_,o,e2,_⟩:=I.ok.funs.mem z
   exact absurd (Heap.lt_size e2) (Nat.not_lt.mpr (I.ok.cab y c (hfn y) e))
 obtain⟨fa,fd0,hm,hk,_⟩:=D 0 (fun _ _ _=>False)
 have go:∀ (f c':Addr) (ctv pm:Value) (h':Heap) (tk:Nat) (H':Hp),Inv X pins σ H' {s with heap:=h',toks:=tk}→h'.get? f=some (PySem.W.kla_obj "<lambda>" (X.env.qual++"<lambda>") noPar body scope cl pm c' ctv)→H' f=none→s.heap.objs.size≤f→SameX T H H'→TblOk H' T (X.env.qual++"<lambda>")→H' c'=some (CodeO c' (X.env.qual++"<lambda>"))→
   wpAny (model X.prog X.w) X.A (call (.ref fa) [.ref f]) (EP X pins σ Q) X.xe {s with heap:=h',toks:=tk}:=by
  intro f c' ctv pm h' tk H' I1 hf nf lf sx tok hcc
  obtain⟨fa',fd,hm',hk',hbd,len,run⟩:=D f (fun H1 Q1 E1=>Same H' H1∧te E1 (js.map fun j=>(σ[j]?).join) H1 Q1)
  obtain rfl:fa=fa':=Value.ref.inj (Option.some.inj (hm.symm.trans hm'))
  have q:=kk f H' nf sx tok
  have hl:([Value.ref f]++[]).length=ps.length:=by rw [← len _ _ _ _ q]; rfl
  have b2:=hbd {s with heap:=h',toks:=tk} [.ref f] I1.kIn hl
  refine wpAny_call (codeAny_mono (run X.A X.stack {s with heap:=h',toks:=tk} H' [.ref f] [.ref f] Q E0 hr I1.env0 b2 (.cons rfl .nil) ⟨⟨_,_,hf,rfl,nf,fun z=>absurd (frT f z) (Nat.not_lt.mpr lf)⟩,?_⟩ q) fun r s' hq=>?_)
  ·intro A outer s2 H2 Q2 E2 hr2 e02 kp hte
   obtain⟨same,hte⟩:=hte
   have cellK:∀ y c0 v,X.env.cells.lookup y=some c0→h'.IsCell c0 v→s2.heap.IsCell c0 v∧H2 c0=none:=fun y c0 v e ⟨o,e1,e2⟩=>by
    obtain⟨z1,z2⟩:=kp c0 o e1 (I1.freeC y c0 e) (celF y c0 e)
    exact⟨⟨o,z1,e2⟩,z2⟩
   refine lam_run (kp f _ hf nf fun z=>absurd (frT f z) (Nat.not_lt.mpr lf)).1 (e02.hok c' _ (same _ _ hcc)).1 hr2 e02 ⟨S.kind,S.co,S.gen,S.nocell,fun y c0 e=>?_,fun y z c0 e1 e2=>I.ok.inj y z c0 (c1 _ _ e1) (c1 _ _ e2),fun y e=>?_,by rw [List.length_map]; exact S.len,fun i y v e1 e2=>?_⟩ (fun hr3=>hb cl f (.ref c') A outer s2 H2 E2 hr3) hte
   ·obtain⟨v,z⟩:=I1.cell y c0 (c1 _ _ e)
    obtain⟨z1,z2⟩:=cellK y c0 v (c1 _ _ e) z
    exact⟨⟨v,z1⟩,z2⟩
   ·rcases e with e | e
    ·exact absurd rfl (S.nocell _ (PySem.mem_of_lookup e))
    ·exact c2 _ (PySem.mem_of_lookup e) rfl
   ·obtain⟨n1,n2⟩:=S.nfree y (List.mem_of_getElem? e1)
    obtain⟨j,j1,j2⟩:=S.at_ i y e1
    rw [List.getElem?_map,j1] at e2
    have e3:(σ[j]?).join=some v:=Option.some.inj e2
    have e4:σ[j]? = some (some v):=by
     cases q0:σ[j]? with
     | none=>rw [q0] at e3; cases e3
     | some w=>rw [q0] at e3; exact congrArg some e3
    obtain⟨m,hn,hl2⟩:=I1.loc
    obtain⟨u,r,lk⟩:=hl2 j y v j2 e4 (.inr (.inl n2))
    rcases lk with ⟨z,_⟩ | ⟨_,c0,z1,z2⟩
    ·rw [show X.env.kindOf y=some NameKind.cell from n2] at z; cases z
    ·obtain⟨c3,z3⟩:=c2 _ (PySem.mem_of_lookup n1) rfl
     obtain rfl:c3=c0:=Option.some.inj ((c1 _ _ z3).symm.trans z1)
     exact⟨n1,c3,u,z3,(cellK y c3 _ z1 z2).1,r⟩
  ·cases r with
   | error e=>exact False.elim hq
   | ok fl=>
    cases fl with
    | next=>exact False.elim hq
    | brk=>exact False.elim hq
    | cont=>exact False.elim hq
    | ret u=>exact I1.after hq
 refine wpAny_Call_Name_kw (ld_glob I hg hm ?_ hdb)
 refine PySem.W.callWith_K (h₀:=X.base) (first:=[]) I.ok.mod.kin hk ?_ hst rfl
 rw [hst]
 show wpAny _ _ (spliced ((false,eval (.Lambda noPar body scope lpos) X.env)::[])) _ _ s
 refine Calls.spliced_cons (PySem.W.kla_eval rfl ?_)
 have kinOf:∀ {H':Hp} {s':Shared},Inv X pins σ H' s'→X.K.In s'.heap:=fun J=>J.kIn
 cases hca:codeAmong lpos tb.toList with
 | none=>
  refine PySem.W.kla_makeFunction (mg:=X.mg) hcl I.ok.glob gN hc (hC.keeps I.bk) hTs ht hca gG hBs fun c' ctv h' tk hx hge hlt hrec htb=>?_
  have kp:∀ (o:Obj) b ob,b≠T→s.heap.get? b=some ob→(h'.push o).get? b=some ob:=fun o b ob n e=>Heap.get?_push_of_some _ (hx b ob n e)
  have fc:H c'=none:=I.hok.fresh hge
  have cT:c'≠T:=fun z=>by rw [z,hT] at fc; cases fc
  have J:∀ o:Obj,Inv X pins σ (upd (upd H T (.tbl (tb ++ #[rawInt lpos.line,rawInt lpos.col,.ref c']))) c' (CodeO c' (X.env.qual++"<lambda>"))) {s with heap:=h'.push o,toks:=tk}:=fun o=>by
   refine I.un (t':=tk) ⟨fun b ob e n hb _=>kp o b ob (fun z=>by rw [z,hT] at n; cases n) e,fun b ob e n hb _=>⟨ob.slots,kp o b ob (fun z=>by rw [z,hT] at n; cases n) e⟩,fun b ob e n _=>?_,fun b ob e _=>?_,fun b xs e=>?_,fun b oo u e=>?_,fun b ps0 e=>?_⟩ fun b u e=>?_
   ·rw [upd_ne (Nat.ne_of_lt (Nat.lt_of_lt_of_le (Heap.lt_size e) hge)),upd_ne fun z=>by rw [z,hT] at n; cases n]; exact n
   ·by_cases z:b=T
    ·rw [z]; exact⟨_,Heap.get?_push_of_some _ htb⟩
    ·exact⟨_,kp o b ob z e⟩
   ·rw [upd_ne (ne_of_none e fc),upd_ne fun z=>by rw [z,hT] at e; cases e]; exact e
   ·rw [upd_ne (ne_of_none e fc),upd_ne fun z=>by rw [z,hT] at e; cases e]; exact e
   ·rw [upd_ne (ne_of_none e fc)]
    by_cases z:b=T
    ·rw [z,hT] at e; cases e
     rw [z,upd_same]; exact⟨_,rfl⟩
    ·rw [upd_ne z]; exact⟨#[],by rw [e]; simp⟩
   ·by_cases z:b=c'
    ·rw [z,upd_same] at e; cases e
     rw [z]
     have hr2:(h'.push o).CodeRec (.ref c') (X.env.qual++"<lambda>"):=by
      obtain⟨c0,oc,vs,t0,e1,e2,e3⟩:=hrec
      exact⟨c0,oc,vs,t0,e1,Heap.get?_push_of_some _ e2,e3⟩
     obtain⟨c0,oc,vs,t0,e1,e2,e3⟩:=id hr2
     cases e1
     exact⟨hr2,⟨_,e2⟩,fun h1 h2 ⟨c1,oc1,vs1,t1,f1,f2,f3⟩ kk1=>by cases f1; exact⟨_,oc1,vs1,t1,rfl,kk1 _ f2,f3⟩⟩
    ·rw [upd_ne z] at e
     by_cases z2:b=T
     ·rw [z2,upd_same] at e; cases e
      rw [z2]; exact Heap.get?_push_of_some _ htb
     ·rw [upd_ne z2] at e
      refine(I.hok b u e).stay (fun c0 w hc0 q0=>kp o c0 w (fun y=>?_) q0) (fun c0 q0=>?_) fun c0 xs q0=>?_
      ·rcases hc0 with hc0 | hc0
       ·exact z2 (hc0.symm.trans y)
       ·rw [y,hT] at hc0; cases hc0
      ·rw [upd_ne (ne_of_none q0 fc),upd_ne fun y=>by rw [y,hT] at q0; cases q0]; exact q0
      ·rw [upd_ne (ne_of_none q0 fc),upd_ne fun y=>by rw [y,hT] at q0; cases q0]; exact q0
  refine Calls.spliced_nil ⟨kinOf (J _),?_⟩
  have hfs:s.heap.objs.size≤h'.objs.size:=Nat.le_of_lt (Nat.lt_of_le_of_lt hge hlt)
  refine go h'.objs.size c' ctv _ _ tk _ (J _) (Heap.get?_push_size _ rfl) ?_ hfs ?_ ?_ upd_same
  ·rw [upd_ne (Nat.ne_of_gt hlt),upd_ne (Nat.ne_of_gt (Nat.lt_of_lt_of_le (Heap.lt_size hTs) hfs))]
   exact I.hok.fresh hfs
  ·intro b o n e
   rw [upd_ne (ne_of_none e fc),upd_ne n]; exact e
  ·refine⟨_,by rw [upd_ne (Ne.symm cT),upd_same],by rw [Array.toList_append]; exact triples_app ht,fun q cv e=>?_⟩
   rw [Array.toList_append] at e
   rcases among_app ht e with e | e
   ·obtain⟨c0,e1,e2⟩:=hent q cv e
    exact⟨c0,e1,by rw [upd_ne (ne_of_none e2 fc),upd_ne fun z=>by rw [z,hT] at e2; cases e2]; exact e2⟩
   ·exact⟨c',e,upd_same⟩
 | some cv=>
  obtain⟨c',e1,e2⟩:=hent lpos cv hca
  subst e1
  refine PySem.W.kla_makeFunctionHit (mg:=X.mg) hcl I.ok.glob gN hc (hC.keeps I.bk) hTs ht hca hBs fun ctv h' tk hx hsz=>?_
  have J:∀ o:Obj,Inv X pins σ H {s with heap:=h'.push o,toks:=tk}:=fun o=>I.kept (t':=tk) fun b ob e=>Heap.get?_push_of_some _ (hx b ob e)
  refine Calls.spliced_nil ⟨kinOf (J _),?_⟩
  exact go h'.objs.size c' ctv _ _ tk _ (J _) (Heap.get?_push_size _ rfl) (I.hok.fresh hsz) hsz (SameX.refl _ _) ⟨tb,hT,ht,hent⟩ e2
theorem law_callT {P:Program} {w:World} {K:PySem.W.Frag} {mg mb:Str→Option Value} {CX:CXT} {k:Nat} {fa a T:Addr} {fd:FuncData} {x:Str} {sp:Sp} {s₁:Shared} {vs:List Value} {ns:List Int}
  (KX:K.In s₁.heap) (hns:s₁.heap.Ns mainGlobals mg) (hb:s₁.heap.Ns builtinsNs mb) (hbb:∀ x:Str,x≠"__name__"→mb x=bootBuiltins x) (hlim:s₁.heap.NoLimit) (hsys:∃ mm,s₁.heap.Ns sysModules mm) (hg:s₁.gens=#[])
  (ha:s₁.heap.get? a=some {cls:=.type "list",data:=.seq vs.toArray}) (hi:IntsAre vs ns) (hl:ns.length≤sizeLine) (hr:Room k callerA)
  (hT:s₁.heap.get? T=some (PySem.W.tabObj #[])) (hct:isCodeTable s₁.heap T) (hnt:PySem.W.noTabs K=true) (hbm:∃ bm ob,mg "__builtins__"=some (.ref bm)∧bm≠builtinsNs∧s₁.heap.get? bm=some ob∧ob.cls=.type "module"∧ob.dict=some builtinsNs∧ob.data=.plain)
  (F:∀ base:Heap,K.In base→base.Ns mainGlobals mg→base.BuiltinsAt mg T→FnOk P w K mg base CX k fa fd [x] sp) (hbind:∀ (s:Shared) (u:Value),BindsTo s fd ⟨[u],[]⟩ [(x,u)])
  (hsp:∀ H:Hp,H T=some (.tbl #[])→SqL K H a (ns.map V.int)→sp [.ref a] H (fun v _=>v=.bl true) fun _ _ _=>False)
  (hCX:∀ H e s',CX [] H s₁ (fun _ _ _=>False) e s'→False) :
  codeAny (model P w) callerA (.call (.ref fa) ⟨[.ref a],[]⟩) (fun r s'=>r=.ok (.ret (.bool true))∧OldK s₁.heap s'.heap∧s'.os=s₁.os∧AllBare s'.gens) s₁:=by
 have rv:=vals_ints hi
 have lenV:=hi.length
 have aT:a≠T:=fun z=>by rw [z,hT] at ha; cases ha
 have KT:K.lookup T=none:=by
  cases q:K.lookup T with
  | none=>rfl
  | some o=>
   have e:=KX T o q
   rw [hT] at e
   cases e
   have h2:=List.all_eq_true.mp hnt (T,_) (PySem.W.mem_of_lookupK q)
   exact absurd (show false=true from h2) Bool.false_ne_true
 have core:∀ H:Hp,H T=some (.tbl #[])→SqL K H a (ns.map V.int)→HOk P w H s₁.heap→(∀ b,H b≠none→b=a∨b=T)→(H a≠none→K.lookup a=none∧H a=some (.frz {cls:=.type "list",data:=.seq vs.toArray} (.lst (ns.map V.int))))→
   codeAny (model P w) callerA (.call (.ref fa) ⟨[.ref a],[]⟩) (fun r s'=>r=.ok (.ret (.bool true))∧OldK s₁.heap s'.heap∧s'.os=s₁.os∧AllBare s'.gens) s₁:=by
  intro H hHT hS hok hA hK
  have no:∀ {b:Addr} {o:Obj},s₁.heap.get? b=some o→o.cls≠.type "list"→o.cls≠.none→H b=none:=fun {b o} e n1 n2=>by
   cases q:H b with
   | none=>rfl
   | some u=>
    rcases hA b (by rw [q]; simp) with z | z
    ·rw [z,ha] at e; cases e; exact absurd rfl n1
    ·rw [z,hT] at e; cases e; exact absurd rfl n2
  have noD:∀ {b:Addr} {o:Obj} {es:Array DictEntry} {ep:Nat},s₁.heap.get? b=some o→o.data=.dict es ep→H b=none:=fun {b o es ep} e d=>by
   cases q:H b with
   | none=>rfl
   | some u=>
    rcases hA b (by rw [q]; simp) with z | z
    ·rw [z,ha] at e; cases e; cases d
    ·rw [z,hT] at e; cases e; cases d
  have nsK:∀ {b:Addr} {m:Str→Option Value},s₁.heap.Ns b m→(hidT s₁.heap H).Ns b m:=fun {b m} ⟨o,es,ep,e,d,r⟩=>⟨o,es,ep,hidT_get e (noD e d),d,r⟩
  have hKb:K.In (hidT s₁.heap H):=fun b o e=>hidT_get (KX b o e) (by
   cases q:H b with
   | none=>rfl
   | some u=>
    rcases hA b (by rw [q]; simp) with z | z
    ·rw [z] at e; rw [(hK (by rw [← z,q]; simp)).1] at e; cases e
    ·rw [z,KT] at e; cases e)
  have hM:Mod K mg (hidT s₁.heap H):=⟨hKb,nsK hns,⟨mb,nsK hb,hbb⟩,let ⟨mc,h1,h2⟩:=hlim; ⟨mc,nsK h1,h2⟩,let ⟨mm,h1⟩:=hsys; ⟨mm,nsK h1⟩⟩
  have e0:Env0 P w K mg (hidT s₁.heap H) callerA [] s₁ H:=⟨rfl,hM,fun b o e=>of_hidT e,Nat.le_of_eq (hidT_size _ _),trivial,fun b hb=>absurd (show b∈([]:List Addr) from hb) (by simp),hok,.of_eq hg⟩
  have hBA:(hidT s₁.heap H).BuiltinsAt mg T:=by
   obtain⟨bm,ob,b1,b2,b3,b4,b5,b6⟩:=hbm
   refine⟨bm,ob,b1,b2,fun z=>?_,fun z=>?_,hidT_get b3 (no b3 (by rw [b4]; simp) (by rw [b4]; simp)),b4,b5,b6⟩
   ·obtain⟨o,es,ep,e,d,_⟩:=hns
    rw [z,e] at b3; cases b3; rw [d] at b6; cases b6
   ·rw [z,hT] at b3; cases b3; cases b4
  refine codeAny_mono ((F _ hKb (nsK hns) hBA).run callerA [] s₁ H ⟨[.ref a],[]⟩ [.ref a] [.ref a] _ _ hr e0 (hbind s₁ (.ref a)) (.cons rfl .nil) (hsp H hHT hS)) fun r s' h=>?_
  cases r with
  | error e=>exact(hCX H e s' h).elim
  | ok fl=>
   cases fl with
   | next=>exact False.elim h
   | brk=>exact False.elim h
   | cont=>exact False.elim h
   | ret u=>
    obtain⟨v,H',os,bare,un,hok',r',q⟩:=h
    have q':v=.bl true:=q
    subst q'
    obtain rfl:u=Value.bool true:=r'
    have keep:∀ b o,b≠T→s₁.heap.get? b=some o→s'.heap.get? b=some o:=fun b o n e=>by
     cases q:H b with
     | none=>exact un.keep b o e q (fun z=>absurd (show b∈([]:List Addr) from z) (by simp)) (by simp)
     | some u=>
      rcases hA b (by rw [q]; simp) with z | z
      ·obtain⟨_,z1⟩:=hK (by rw [← z,q]; simp)
       rw [z,ha] at e
       cases e
       rw [z]
       exact(hok' a _ (un.frzs a _ _ z1)).1
      ·exact absurd z n
    obtain⟨more,hm⟩:=un.tbls T _ hHT
    have hT':s'.heap.get? T=some {cls:=.none,data:=.fields (#[]++more)}:=hok' T _ hm
    refine⟨rfl,⟨fun b o e=>?_,fun b o e=>?_⟩,os,bare⟩
    ·by_cases z:b=T
     ·subst z
      rw [hT] at e
      cases e
      exact .inr (.inl ⟨hct,rfl,#[],more,rfl,hT'⟩)
     ·exact .inl (keep b o z e)
    ·by_cases z:b=T
     ·rw [z]; exact⟨_,hT'⟩
     ·exact⟨o,keep b o z e⟩
 cases hk:K.lookup a with
 | some o=>
  have e:=KX a o hk
  rw [ha] at e
  cases e
  refine core (fun b=>if b=T then some (.tbl #[]) else none) (if_pos rfl) (.inr ⟨_,vs.toArray,_,hk,rfl,rfl,rfl,by rw [List.size_toArray,lenV]; exact hl,by simpa using rv⟩) (fun b u z=>?_) (fun b z=>?_) fun z=>absurd (if_neg aT) z
  ·by_cases hb:b=T
   ·have z':=(if_pos hb).symm.trans z
    cases z'
    rw [hb]; exact hT
   ·have z':=(if_neg hb).symm.trans z
    cases z'
  ·by_cases hb:b=T
   ·exact .inr hb
   ·exact absurd (if_neg hb) z
 | none=>
  have H0:∀ b,(fun b=>if b=T then some (HO.tbl #[]) else if b=a then some (HO.frz {cls:=.type "list",data:=.seq vs.toArray} (.lst (ns.map V.int))) else none:Hp) b=if b=T then some (HO.tbl #[]) else if b=a then some (HO.frz {cls:=.type "list",data:=.seq vs.toArray} (.lst (ns.map V.int))) else none:=fun _=>rfl
  refine core (fun b=>if b=T then some (HO.tbl #[]) else if b=a then some (HO.frz {cls:=.type "list",data:=.seq vs.toArray} (.lst (ns.map V.int))) else none) (if_pos rfl) (.inl (.inr ⟨{cls:=.type "list",data:=.seq vs.toArray},(if_neg aT).trans (if_pos rfl)⟩)) (fun b u z=>?_) (fun b z=>?_) fun _=>⟨hk,(if_neg aT).trans (if_pos rfl)⟩
  ·by_cases hb:b=T
   ·have z':=(if_pos hb).symm.trans z
    cases z'
    rw [hb]; exact hT
   ·have z1:=(if_neg hb).symm.trans z
    by_cases hb2:b=a
    ·have z':=(if_pos hb2).symm.trans z1
     cases z'
     subst hb2
     exact⟨ha,by rw [List.length_map]; exact hl,vs,_,rv,ha⟩
    ·have z':=(if_neg hb2).symm.trans z1
     cases z'
  ·by_cases hb:b=T
   ·exact .inr hb
   ·by_cases hb2:b=a
    ·exact .inl hb2
    ·exact absurd ((if_neg hb).trans (if_neg hb2)) z
theorem walk_ofT {l:PySem.W.OpenLaw} {n k:Nat} {q:Program} {loose:List Str} {XP:(Str→Option Value)→Heap→Prop} {YP:World→Heap→Prop} {d:DefRec} {K:Params→PySem.W.Frag} {CX:World→CXT} {sp:World→Sp} {x:Str} {cc TT:World→Addr}
  (hn:l.most=some n) (hn2:n≤sizeLine) (hdf:d.params.defaults=[]) (hr:Room k callerA) (hq:importsNone q=true) (hrec:(recsOf q).find? (fun e=>e.name==d.name)=some d)
  (hY:∀ (w:World) (h:Heap),YP w h→(K w.params).In h) (hnt:∀ w:World,PySem.W.noTabs (K w.params)=true) (htb:∀ w:World,PySem.W.tabIn (K w.params) d.name=some (cc w,TT w))
  (F:∀ (w:World) (mg:Str→Option Value) (fa:Addr) (h:Heap),(K w.params).In h→h.Ns mainGlobals mg→mg d.name=some (.ref fa)→
   ∃ fd:FuncData,(∀ (s:Shared) (u:Value),BindsTo s fd ⟨[u],[]⟩ [(x,u)])∧
    ∀ base:Heap,(K w.params).In base→base.Ns mainGlobals mg→base.BuiltinsAt mg (TT w)→FnOk l.prog w (K w.params) mg base (CX w) k fa fd [x] (sp w))
  (hsp:∀ (w:World) (H:Hp) (a:Addr) (ns:List Int),ns.length≤n→H (TT w)=some (.tbl #[])→SqL (K w.params) H a (ns.map V.int)→sp w [.ref a] H (fun v _=>v=.bl true) fun _ _ _=>False)
  (hCX:∀ (w:World) (H:Hp) (s:Shared) (e:Value) (s':Shared),CX w [] H s (fun _ _ _=>False) e s'→False) :
  PySem.W.WalkO q loose XP YP l.row.toRowW d [] (fun f vs=>PySem.call f vs):=by
 refine Att.attach_call hn hdf fun w s₀ s₁ mg mb fa o pm cd doc a vs ns G Y ho hd hcd hmg hobj hints hlen hg=>?_
 have KX:=hY w _ Y
 obtain⟨fd,hb,hF⟩:=F w mg fa _ KX G.T.g hmg
 obtain⟨hCH,hT⟩:=PySem.W.tab_of G.T KX hrec (htb w)
 exact law_callT KX G.T.g G.T.b G.T.builtins G.T.nolimit (let ⟨mm,x,_⟩:=(G.T.seer hq).mods; ⟨mm,x⟩) hg hobj hints (Nat.le_trans hlen hn2) hr hT (hCH.tab hT).isCodeTable (hnt w) G.T.bmain hF hb (fun H h1 hS=>hsp w H a ns hlen h1 hS) fun H e s'=>hCX w H s₁ e s'
abbrev LC(k:NameKind)(s:Scope)(x:String):Prop:=s.names.lookup (Str.ofString x)=some k
abbrev LN(k:NameKind)(s:Stmt)(x:String):Prop:=(defScope s).names.lookup (Str.ofString x)=some k
abbrev LD(x:String):Prop:=((Str.ofString x:Str)==("__debug__":Str))=false
abbrev LS(x:String):Prop:=((Str.ofString x:Str)==("__classdict__":Str))=false
abbrev LM(x:String):Prop:=(Str.ofString x:Str)≠"__name__"
end L2
namespace Few
open PySem L2
def top (i:Nat):Stmt:=PySem.Challenge.pw_fewthings_k51_namings_told.main.body.getD i (.Pass ⟨0,0,0,0⟩)
structure Bl (mg:Str→Option Value):Prop where
 n_len:mg "len"=none
 n_max:mg "max"=none
 n_abs:mg "abs"=none
 n_divmod:mg "divmod"=none
 n_list:mg "list"=none
 n_tuple:mg "tuple"=none
 n_range:mg "range"=none
 n_int:mg "int"=none
 n_str:mg "str"=none
 n_repr:mg "repr"=none
 n_isinstance:mg "isinstance"=none
 n_all:mg "all"=none
 n_set:mg "set"=none
theorem erase_map {α β:Type} (f:α→β):∀ (l:List α) (i:Nat),(l.map f).eraseIdx i=(l.eraseIdx i).map f
 | [],_=>rfl
 | _::_,0=>rfl
 | x::r,i+1=>by
  show f x::(r.map f).eraseIdx i=f x::(r.eraseIdx i).map f
  rw [erase_map f r i]
theorem perm_erase {α:Type}:∀ (l:List α) (i:Nat) (h:i<l.length),(l[i]::l.eraseIdx i).Perm l
 | x::r,0,_=>List.Perm.refl _
 | x::r,i+1,h=>by
  show (r[i]'(by simpa using h)::x::r.eraseIdx i).Perm (x::r)
  exact(List.Perm.swap _ _ _).trans (List.Perm.cons x (perm_erase r i (by simpa using h)))
theorem zba:LD "_law_cell_here":=by decide +kernel
theorem zbb:LS "_law_cell_here":=by decide +kernel
theorem zbc:LD "_law_digit":=by decide +kernel
theorem zbd:LS "_law_digit":=by decide +kernel
theorem zbe:LD "_law_draw":=by decide +kernel
theorem zbf:LD "_law_k":=by decide +kernel
theorem zbg:LS "_law_k":=by decide +kernel
theorem zbh:LD "_law_left":=by decide +kernel
theorem zbi:LS "_law_left":=by decide +kernel
theorem zbj:LD "_law_many":=by decide +kernel
theorem zbk:LS "_law_many":=by decide +kernel
theorem zbl:LD "_law_menu":=by decide +kernel
theorem zbm:LS "_law_menu":=by decide +kernel
theorem zbn:LD "_law_pot_here":=by decide +kernel
theorem zbo:LS "_law_pot_here":=by decide +kernel
theorem zbp:LD "_law_script":=by decide +kernel
theorem zbq:LS "_law_script":=by decide +kernel
theorem zbr:LD "abs":=by decide +kernel
theorem zbs:LM "abs":=by decide +kernel
theorem zbt:LD "divmod":=by decide +kernel
theorem zbu:LM "divmod":=by decide +kernel
theorem zbv:LD "len":=by decide +kernel
theorem zbw:LM "len":=by decide +kernel
theorem zbx:LD "list":=by decide +kernel
theorem zby:LM "list":=by decide +kernel
theorem zbz:LD "max":=by decide +kernel
theorem zb0:LM "max":=by decide +kernel
section
variable {P:Program} {w:World} {K:PySem.W.Frag} {mg:Str→Option Value} {base:Heap}
def spCell:Sp:=fun vs H Q _=>∃ (a:Addr) (ns:List Int) (k:Nat),vs=[.ref a,.int k]∧SqL K H a (ns.map V.int)∧∀ n,Q (.int n) H
abbrev s_law_cell:Stmt:=top 40
theorem zb1:FnScope ["_law_script","_law_k"] ["_law_script","_law_k"] (defScope s_law_cell):=⟨rfl,rfl,rfl,by decide +kernel,rfl,by decide +kernel,by decide +kernel⟩
theorem zb2:LN .local s_law_cell "_law_k":=by decide +kernel
theorem zb3:LN .local s_law_cell "_law_script":=by decide +kernel
theorem zb4:LN .globalImplicit s_law_cell "len":=by decide +kernel
theorem ok_cell (F:FunAt K mg "_law_cell" s_law_cell ["_law_script","_law_k"]) (Z:Bl mg):Def P w K mg base "_law_cell" 1 ["_law_script","_law_k"] (spCell (K:=K)):=by
 have SC:=zb1
 refine F.mk' (k:=0) zb1 (fun vs H Q E h=>?_) (fun f cdv A outer s H vs Q E hr h=>?_)
 ·obtain⟨a,ns,k,rfl,_⟩:=h
  rfl
 ·obtain⟨a,ns,k,rfl,hS,q⟩:=h
  refine'⟨_,?derivation,?_⟩
  case derivation=>refine' pss_cons ?Aa ?Ba;(case Aa=>refine' ps_if ?Ca ?Da pss_nil;(case Ca=>refine' pt_cmpR op_lt (pq 1 (visL zb2) zbf zbg) ?Ea (nomark _);case Ea=>refine' pe_callB (hn:=zbw) (hdb:=zbv) call_len_seq zb4 Z.n_len bt_len ?Fa rfl rfl;case Fa=>refine' pa_cons (pq 0 (visL zb3) zbp zbq) pa_nil ?Ga;case Ga=>rfl);case Da=>refine' pss_one ?Ha;case Ha=>refine' ps_ret ?Ia;case Ia=>refine' pe_ix ix_list (pq 0 (visL zb3) zbp zbq) (pq 1 (visL zb2) zbf zbg) ?Ja;case Ja=>intro _ _;exact rfl);case Ba=>refine' pss_one ?Ka;case Ka=>refine' ps_ret ?La;case La=>exact pe_int
  refine⟨_,rfl,_,rfl,a,_,rfl,.inl hS,_,_,rfl,rfl,_,rfl,?_⟩
  refine ite2 (fun hc=>?_) (fun hc=>q 0)
  have hc:(k:Int)<((ns.map V.int).length:Int):=of_decide_eq_true hc
  rw [List.length_map] at hc
  have hk:k<ns.length:=by omega
  refine⟨_,rfl,_,rfl,a,_,_,_,rfl,rfl,hS,atI_nat (v:=V.int ns[k]) (by simp [hk]),q _⟩
def PotAt (H:Hp) (p:Addr):Prop:=∃ a b c:Int,H p=some (.lst [.int a,.int b,.int c])∧0≤a∧0≤b∧b<4294967296
def spPot:Sp:=fun vs H Q _=>∃ n:Int,vs=[.int n]∧∀ p H',H p=none→PotAt H' p→Same H H'→Q (.ref p) H'
abbrev s_law_pot:Stmt:=top 41
theorem zb5:FnScope ["_law_cell_here"] ["_law_cell_here"] (defScope s_law_pot):=⟨rfl,rfl,rfl,by decide +kernel,rfl,by decide +kernel,by decide +kernel⟩
theorem zb6:LN .local s_law_pot "_law_cell_here":=by decide +kernel
theorem zb7:LN .globalImplicit s_law_pot "abs":=by decide +kernel
theorem zb8:LN .globalImplicit s_law_pot "max":=by decide +kernel
theorem ok_pot (F:FunAt K mg "_law_pot" s_law_pot ["_law_cell_here"]) (Z:Bl mg):Def P w K mg base "_law_pot" 1 ["_law_cell_here"] spPot:=by
 have SC:=zb5
 refine F.mk' (k:=0) zb5 (fun vs H Q E h=>?_) (fun f cdv A outer s H vs Q E hr h=>?_)
 ·obtain⟨n,rfl,_⟩:=h
  rfl
 ·obtain⟨n,rfl,q⟩:=h
  refine'⟨_,?derivation,?_⟩
  case derivation=>refine' pss_one ?Aa;case Aa=>refine' ps_ret ?Ba;case Ba=>refine' pe_lst ?Ca;case Ca=>refine' pa_cons ?Da ?Ea ?Fa;(case Da=>refine' pe_callB (hn:=zb0) (hdb:=zbz) (call_max2 rfl) zb8 Z.n_max bt_max ?Ga rfl rfl;case Ga=>refine' pa_cons ?Ha ?Ia ?Ja;(case Ha=>exact pe_int);(case Ia=>refine' pa_cons ?Ka pa_nil ?La;(case Ka=>refine' pe_op op_sub ?Ma ?Na;(case Ma=>refine' pe_callB (hn:=zbs) (hdb:=zbr) call_abs zb7 Z.n_abs bt_abs ?Oa rfl rfl;case Oa=>refine' pa_cons (pq 0 (visL zb6) zba zbb) pa_nil ?Pa;case Pa=>rfl);case Na=>refine' pe_op op_pow ?Qa ?Ra;(case Qa=>exact pe_int);case Ra=>exact pe_int);case La=>rfl);case Ja=>rfl);(case Ea=>refine' pa_cons ?Sa ?Ta ?Ua;(case Sa=>refine' pe_op op_add ?Va ?Wa;(case Va=>refine' pe_op op_mod ?Xa ?Ya;(case Xa=>refine' pe_callB (hn:=zbs) (hdb:=zbr) call_abs zb7 Z.n_abs bt_abs ?Za rfl rfl;case Za=>refine' pa_cons (pq 0 (visL zb6) zba zbb) pa_nil ?Ab;case Ab=>rfl);case Ya=>exact pe_int);case Wa=>exact pe_int);(case Ta=>refine' pa_cons ?Bb pa_nil ?Cb;(case Bb=>exact pe_int);case Cb=>rfl);case Ua=>rfl);case Fa=>rfl
  refine⟨_,rfl,_,rfl,_,_,rfl,rfl,⟨by decide,by decide,by decide⟩,_,_,rfl,rfl,_,_,rfl,?_⟩
  refine⟨_,rfl,_,rfl,_,_,rfl,rfl,(by show (0:Int)<2147483629; decide),_,_,rfl,rfl,(by show 3≤sizeLine; decide),fun p hp=>?_⟩
  refine q p _ hp ⟨_,_,_,upd_same,?_,?_,?_⟩ (same_new hp _)
  ·split <;> omega
  ·have:=Int.emod_nonneg (if n<0 then -n else n) (b:=2147483629) (by decide)
   omega
  ·have:=Int.emod_lt_of_pos (if n<0 then -n else n) (b:=2147483629) (by decide)
   omega
def spDraw:Sp:=fun vs H Q _=>∃ (p:Addr) (m:Int),vs=[.ref p,.int m]∧PotAt H p∧0<m∧m<1000∧∀ (r:Int) H',0≤r→r<m→PotAt H' p→SameX p H H'→Q (.int r) H'
abbrev s_law_draw:Stmt:=top 42
theorem zb9:FnScope ["_law_pot_here","_law_many","_law_digit"] ["_law_pot_here","_law_many"] (defScope s_law_draw):=⟨rfl,rfl,rfl,by decide +kernel,rfl,by decide +kernel,by decide +kernel⟩
theorem zca:LN .local s_law_draw "_law_digit":=by decide +kernel
theorem zcb:LN .local s_law_draw "_law_many":=by decide +kernel
theorem zcc:LN .local s_law_draw "_law_pot_here":=by decide +kernel
theorem zcd:LN .globalImplicit s_law_draw "divmod":=by decide +kernel
theorem ok_draw (F:FunAt K mg "_law_draw" s_law_draw ["_law_pot_here","_law_many"]) (Z:Bl mg):Def P w K mg base "_law_draw" 1 ["_law_pot_here","_law_many"] spDraw:=by
 have SC:=zb9
 refine F.mk' (k:=0) zb9 (fun vs H Q E h=>?_) (fun f cdv A outer s H vs Q E hr h=>?_)
 ·obtain⟨p,m,rfl,_⟩:=h
  rfl
 ·obtain⟨p,m,rfl,⟨a,b,c,hp,ha,hb,hb2⟩,hm,hm2,q⟩:=h
  refine'⟨_,?derivation,?_⟩
  case derivation=>refine' pss_cons ?Aa ?Ba;(case Aa=>refine' ps_if ?Ca ?Da pss_nil;(case Ca=>refine' pt_cmpR op_gt ?Ea ?Fa (nomark _);(case Ea=>refine' pe_ix ix_list (pq 0 (visL zcc) zbn zbo) ?Ga ?Ha;(case Ga=>exact pe_int);case Ha=>intro _ _;exact rfl);case Fa=>exact pe_int);case Da=>refine' pss_cons ?Ia ?Ja;(case Ia=>refine' ps_asg ?Ka ?La ?Ma ?Na ?Oa;(case Ka=>refine' pe_callB (hn:=zbu) (hdb:=zbt) call_divmod zcd Z.n_divmod bt_divmod ?Pa rfl rfl;case Pa=>refine' pa_cons ?Qa ?Ra ?Sa;(case Qa=>refine' pe_ix ix_list (pq 0 (visL zcc) zbn zbo) ?Ta ?Ua;(case Ta=>exact pe_int);case Ua=>intro _ _;exact rfl);(case Ra=>refine' pa_cons (pq 1 (visL zcb) zbj zbk) pa_nil ?Va;case Va=>rfl);case Sa=>rfl);(case La=>refine' pg_tup rfl ?Wa rfl rfl;case Wa=>refine' pgs_cons ?Xa ?Ya ?Za;(case Xa=>refine' pg_sub (pq 0 (visL zcc) zbn zbo) ?Ab set_list ?Bb;(case Ab=>exact pe_int);case Bb=>intro _; rfl);(case Ya=>refine' pgs_cons ?Cb pgs_nil ?Db;(case Cb=>refine' pg_name (i:=2) (x:=Str.ofString "_law_digit") SC.nd rfl (Or.inl zca) (.inl rfl));case Db=>rfl);case Za=>rfl);(case Ma=>rfl);(case Na=>rfl);case Oa=>rfl);case Ja=>refine' pss_one ?Eb;case Eb=>refine' ps_ret (pq 2 (visL zca) zbc zbd));case Ba=>refine' pss_cons ?Fb ?Gb;(case Fb=>refine' ps_asg ?Hb ?Ib ?Jb ?Kb ?Lb;(case Hb=>refine' pe_op op_mod ?Mb ?Nb;(case Mb=>refine' pe_op op_add ?Ob ?Pb;(case Ob=>refine' pe_op op_mul ?Qb ?Rb;(case Qb=>refine' pe_ix ix_list (pq 0 (visL zcc) zbn zbo) ?Sb ?Tb;(case Sb=>exact pe_int);case Tb=>intro _ _;exact rfl);case Rb=>exact pe_int);case Pb=>exact pe_int);case Nb=>exact pe_int);(case Ib=>refine' pg_sub (pq 0 (visL zcc) zbn zbo) ?Ub set_list ?Vb;(case Ub=>exact pe_int);case Vb=>intro _; rfl);(case Jb=>rfl);(case Kb=>rfl);case Lb=>rfl);case Gb=>refine' pss_one ?Wb;case Wb=>refine' ps_ret ?Xb;case Xb=>refine' pe_op op_mod ?Yb (pq 1 (visL zcb) zbj zbk);case Yb=>refine' pe_op op_fdiv ?Zb ?Ac;(case Zb=>refine' pe_op op_mod ?Bc ?Cc;(case Bc=>refine' pe_op op_mul ?Dc ?Ec;(case Dc=>refine' pe_ix ix_list (pq 0 (visL zcc) zbn zbo) ?Fc ?Gc;(case Fc=>exact pe_int);case Gc=>intro _ _;exact rfl);case Ec=>refine' pe_ix ix_list (pq 0 (visL zcc) zbn zbo) ?Hc ?Ic;(case Hc=>exact pe_int);case Ic=>intro _ _;exact rfl);case Cc=>exact pe_int);case Ac=>exact pe_int
  refine⟨_,rfl,p,_,_,_,rfl,rfl,SqL.of hp,rfl,_,_,rfl,rfl,_,rfl,?_⟩
  refine ite2 (fun hc=>?_) (fun hc=>?_)
  ·refine⟨_,rfl,p,_,_,_,rfl,rfl,SqL.of hp,rfl,_,rfl,_,_,rfl,⟨hm,by omega⟩,fun t ht=>?_⟩
   have npt:p≠t:=ne_of_none hp ht
   refine⟨t,_,rfl,SqT.of upd_same,rfl,_,_,rfl,_,rfl,p,_,_,_,rfl,rfl,(by rw [upd_ne npt]; exact hp),rfl,_,_,rfl,⟨rfl,_,rfl,?_⟩⟩
   refine q _ _ (Int.emod_nonneg _ (by omega)) (Int.emod_lt_of_pos _ hm) ⟨_,_,_,upd_same,Int.ediv_nonneg ha (by omega),hb,hb2⟩ (fun b o n e=>?_)
   rw [upd_ne n,upd_ne (ne_of_none e ht)]; exact e
  ·refine⟨_,rfl,p,_,_,_,rfl,rfl,SqL.of hp,rfl,_,_,rfl,rfl,.inr ⟨by decide,by decide⟩,_,_,rfl,rfl,_,_,rfl,rfl,(by show (0:Int)<2147483647; decide),?_⟩
   have g0:0≤(b*48271+11) % 2147483647:=Int.emod_nonneg _ (by decide)
   have g1:(b*48271+11) % 2147483647<2147483647:=Int.emod_lt_of_pos _ (by decide)
   refine⟨_,rfl,p,_,_,_,rfl,rfl,hp,rfl,?_⟩
   refine⟨_,rfl,p,_,_,_,rfl,rfl,SqL.of upd_same,rfl,_,rfl,p,_,_,_,rfl,rfl,SqL.of upd_same,rfl,_,_,rfl,rfl,.inl ⟨by omega,by omega⟩,_,_,rfl,rfl,(by show (0:Int)<2147483629; decide),_,_,rfl,rfl,⟨by decide,by decide⟩,_,rfl,_,_,rfl,rfl,hm,?_⟩
   refine q _ _ (Int.emod_nonneg _ (by omega)) (Int.emod_lt_of_pos _ hm) ⟨_,_,_,upd_same,ha,g0,by omega⟩ (fun b o n e=>?_)
   rw [upd_ne n]; exact e
structure Went (p:Addr) (H H':Hp):Prop where
 pot:PotAt H' p
 same:SameX p H H'
theorem PotAt.keep {H H':Hp} {p:Addr} (h:PotAt H p) (s:Same H H'):PotAt H' p:=let ⟨a,b,c,e,r⟩:=h; ⟨a,b,c,s _ _ e,r⟩
theorem PotAt.some {H:Hp} {p:Addr} (h:PotAt H p):∃ o,H p=some o:=let ⟨_,_,_,e,_⟩:=h; ⟨_,e⟩
def spUnlike:Sp:=fun vs H Q _=>∃ (p a:Addr) (m:Nat) (xs:List Str),vs=[.ref p,.int m,.ref a]∧PotAt H p∧SqL K H a (xs.map V.str)∧m≤xs.length∧xs.length<100∧xs.Nodup∧
 ∀ l (ys:List Str) H',H l=none→H' l=some (.lst (ys.map V.str))→ys.length=m→ys.Nodup→(∀ y∈ys,y∈xs)→Went p H H'→Q (.ref l) H'
abbrev s_law_unlike:Stmt:=top 43
theorem zce:FnScope ["_law_pot_here","_law_many","_law_menu","_law_left"] ["_law_pot_here","_law_many","_law_menu"] (defScope s_law_unlike):=⟨rfl,rfl,rfl,by decide +kernel,rfl,by decide +kernel,by decide +kernel⟩
theorem zcf:LN .cell s_law_unlike "_law_left":=by decide +kernel
theorem zcg:LN .local s_law_unlike "_law_many":=by decide +kernel
theorem zch:LN .local s_law_unlike "_law_menu":=by decide +kernel
theorem zci:LN .globalImplicit s_law_unlike "list":=by decide +kernel
theorem zcj:LN .globalImplicit s_law_unlike "range":=by decide +kernel
abbrev QS0:Scope:={kind:=PySem.ScopeKind.function,names:=[ (PySem.Str.ofString ".0",PySem.NameKind.local),(PySem.Str.ofString "_law_k",PySem.NameKind.local),(PySem.Str.ofString "_law_draw",PySem.NameKind.globalImplicit),(PySem.Str.ofString "len",PySem.NameKind.globalImplicit),(PySem.Str.ofString "_law_left",PySem.NameKind.free),(PySem.Str.ofString "_law_pot_here",PySem.NameKind.free)],isGenerator:=false,isCoroutine:=false,more:=[]:PySem.Scope}
theorem zck:CompSc 1 ["_law_k","_law_pot_here","_law_many","_law_menu","_law_left"] ["_law_pot_here","_law_many","_law_menu","_law_left"] (defScope s_law_unlike) QS0:=⟨rfl,by decide +kernel,by decide +kernel,by decide +kernel,by decide +kernel,rfl,by decide +kernel⟩
theorem zcl:LC .globalImplicit QS0 "_law_draw":=by decide +kernel
theorem zcm:LC .local QS0 "_law_k":=by decide +kernel
theorem zcn:LC .free QS0 "_law_left":=by decide +kernel
theorem zco:LC .free QS0 "_law_pot_here":=by decide +kernel
theorem zcp:LC .globalImplicit QS0 "len":=by decide +kernel
theorem ok_unlike (F:FunAt K mg "_law_unlike" s_law_unlike ["_law_pot_here","_law_many","_law_menu"]) (Z:Bl mg) (D_law_draw:Def P w K mg base "_law_draw" 1 ["_law_pot_here","_law_many"] spDraw):Def P w K mg base "_law_unlike" 2 ["_law_pot_here","_law_many","_law_menu"] (spUnlike (K:=K)):=by
 have SC:=zce
 refine F.mk' (k:=1) zce (fun vs H Q E h=>?_) (fun f cdv A outer s H vs Q E hr h=>?_)
 ·obtain⟨p,a,m,xs,rfl,_⟩:=h
  rfl
 ·obtain⟨p,a,m,xs,rfl,hp,ha,hm,hx,hn,q⟩:=h
  refine'⟨_,?derivation,?_⟩
  case derivation=>refine' pss_cons ?Aa ?Ba;(case Aa=>refine' ps_set (i:=3) (x:=Str.ofString "_law_left") ?Ca ?Da ?Ea ?Fa ?Ga ?Ha;(case Ca=>exact SC.nd);(case Da=>exact rfl);(case Ea=>exact(Or.inr zcf));(case Fa=>refine' pe_callTy (hn:=zby) (hdb:=zbx) ?Ia zci Z.n_list bt_list ?Ja rfl rfl;(case Ia=>exact call_list_of);case Ja=>refine' pa_cons (pq 2 (visL zch) zbl zbm) pa_nil ?Ka;case Ka=>rfl);(case Ga=>rfl);case Ha=>exact .inl rfl);case Ba=>refine' pss_one ?La;case La=>refine' ps_ret ?Ma;case Ma=>refine' pe_comp noxe rfl zck.at ?Na ?Oa ?Pa ?Qa;(case Na=>refine' pi_range1 zcj Z.n_range ?Ra rfl;case Ra=>refine' pa_cons (pq 1 (visL zcg) zbj zbk) pa_nil ?Sa;case Sa=>rfl);(case Oa=>intro _ _ _ _ _;refine' pg_name (i:=0) zck.nd rfl (locO zcm) (.inr (lookup_relabel_local zcm)));(case Pa=>intro _ _ _ _ _;refine' pe_bm PySem.F.plainAttrs_list PySem.F.slot_list_pop PySem.F.type_list_pop mt_popAt (pq 4 (visF zcn) zbh zbi) ?Ta rfl rfl rfl rfl rfl;case Ta=>refine' pa_cons ?Ua pa_nil ?Va;(case Ua=>refine' pe_def (hdb:=zbe) D_law_draw (hr.mono (by decide)) (glO zcl) ?Wa rfl rfl;case Wa=>refine' pa_cons (pq 1 (visF zco) zbn zbo) ?Xa ?Ya;(case Xa=>refine' pa_cons ?Za pa_nil ?Ab;(case Za=>refine' pe_callB (hn:=zbw) (hdb:=zbv) call_len_seq (glO zcp) Z.n_len bt_len ?Bb rfl rfl;case Bb=>refine' pa_cons (pq 4 (visF zcn) zbh zbi) pa_nil ?Cb;case Cb=>rfl);case Ab=>rfl);case Ya=>rfl);case Va=>rfl);case Qa=>intro _; rfl
  refine⟨_,rfl,a,_,rfl,.inl ha,fun L hL=>?_⟩
  refine⟨_,rfl,m,rfl,by omega,by omega,?_⟩
  intro cl C ex s0 H0
  have hpL:p≠L:=by obtain⟨o,e⟩:=hp.some; exact ne_of_none e hL
  refine comp_it1 m (fun i ys H1=>∃ zs ws:List Str,H1 L=some (.lst (zs.map V.str))∧zs.length+i=xs.length∧ys=ws.map V.str∧(ws++zs).Nodup∧(∀ y∈ws++zs,y∈xs)∧Went p H H1) (fun _ _=>True)
   ⟨xs,[],upd_same,rfl,rfl,hn,fun y hy=>hy,hp.keep (same_new hL _),(same_new hL _).x⟩ (Nat.le_trans (Nat.le_trans hm (by omega)) (show 100≤sizeLine by decide)) (fun i ys H1 hi _ _=>⟨hi,fun x H' y=>⟨y.1,trivial⟩⟩) (fun _ _ _ _=>Nat.le_refl _) ?_ ?_
  ·rintro i x ys H1 hi _ hy ⟨zs,ws,hzL,hzl,rfl,hnd,hsub,W⟩
   refine⟨_,rfl,.inl ⟨rfl,_,SqL.of hzL⟩,_,rfl,_,rfl,L,_,rfl,.inl (SqL.of hzL),p,_,rfl,W.pot,?_,?_,fun r H2 h0 h1 hp2 s2=>?_⟩
   ·rw [List.length_map]; omega
   ·rw [List.length_map]; omega
   ·rw [List.length_map] at h1
    have hr':r.toNat<zs.length:=by omega
    have hzL2:H2 L=some (.lst (zs.map V.str)):=s2 L _ (Ne.symm hpL) hzL
    refine⟨L,_,r,r.toNat,V.str zs[r.toNat],rfl,rfl,hzL2,by omega,by omega,seqIx h0 (by rw [List.length_map]; omega),by simp [hr'],?_⟩
    refine⟨zs.eraseIdx r.toNat,ws++[zs[r.toNat]],?_,?_,by simp,?_,?_,?_,?_⟩
    ·rw [upd_same,erase_map]
    ·rw [List.length_eraseIdx_of_lt hr']; omega
    ·have pm:(zs[r.toNat]::zs.eraseIdx r.toNat).Perm zs:=perm_erase zs _ hr'
     have pm2:(ws++[zs[r.toNat]]++zs.eraseIdx r.toNat).Perm (ws++zs):=by
      rw [List.append_assoc]
      exact List.Perm.append_left ws pm
     exact(List.Perm.nodup_iff pm2).mpr hnd
    ·intro y hy
     refine hsub y ?_
     have pm:(zs[r.toNat]::zs.eraseIdx r.toNat).Perm zs:=perm_erase zs _ hr'
     have pm2:(ws++[zs[r.toNat]]++zs.eraseIdx r.toNat).Perm (ws++zs):=by
      rw [List.append_assoc]
      exact List.Perm.append_left ws pm
     exact(List.Perm.mem_iff pm2).mp hy
    ·obtain⟨a',b',c',e,r'⟩:=hp2
     exact⟨a',b',c',by rw [upd_ne hpL]; exact e,r'⟩
    ·intro b o n e
     rw [upd_ne (ne_of_none e hL)]
     exact s2 b o n (W.same b o n e)
  ·rintro ys H1 hy ⟨zs,ws,hzL,hzl,rfl,hnd,hsub,W⟩ D hD
   have hpD:p≠D:=by obtain⟨o,e⟩:=W.pot.some; exact ne_of_none e hD
   refine q D ws _ (W.same.free (Ne.symm hpD) hD) upd_same (by simpa using hy) (List.nodup_append.mp hnd).1 (fun y hy=>hsub y (List.mem_append_left _ hy)) ⟨W.pot.keep (same_new hD _),W.same.same (same_new hD _)⟩
end
end Few
set_option maxHeartbeats 1000000
namespace Few
open PySem L2
def isNm (z:Str):Prop:=1≤z.cps.toList.length∧z.cps.toList.length≤12∧∀ c∈z.cps.toList,97≤c∧c≤122
def sayWords:List Str:=["all","some","not","and","or"]
def isSg (z:Str):Prop:=isNm z∧¬ z∈sayWords
theorem str_len (z:Str):z.length=z.cps.toList.length:=by show z.cps.size=_; simp
def abc:Str:=Str.ofString "abcdefghijklmnopqrstuvwxyz"
theorem inV_strs (z:Str):∀ ws:List Str,inV (V.str z) (ws.map V.str)=decide (z∈ws)
 | []=>rfl
 | x::r=>by
  have ih:=inV_strs z r
  have e:inV (V.str z) ((x::r).map V.str)=(eqV (V.str x) (V.str z)||inV (V.str z) (r.map V.str)):=rfl
  rw [e,ih]
  have e2:eqV (V.str x) (V.str z)=decide (x=z):=by
   first
    | rfl
    | (unfold eqV; rw [Bool.beq_eq_decide_eq])
    | (unfold eqV; simp)
  rw [e2]
  by_cases h:x=z
  ·subst h; simp
  ·have h':¬ z=x:=fun e=>h e.symm
   simp [h,h']
section
variable {P:Program} {w:World} {K:PySem.W.Frag} {mg:Str→Option Value} {base:Heap}
theorem Went.trans {p:Addr} {H H1 H2:Hp} (a:Went p H H1) (b:Went p H1 H2):Went p H H2:=⟨b.pot,a.same.trans b.same⟩
theorem Went.mk1 {p:Addr} {H H1 H2:Hp} (a:Went p H H1) (pt:PotAt H2 p) (s:SameX p H1 H2):Went p H H2:=⟨pt,a.same.trans s⟩
theorem Went.new {p:Addr} {H H1:Hp} {l:Addr} (a:Went p H H1) (h:H1 l=none) (o:HO):Went p H (upd H1 l o):=⟨a.pot.keep (same_new h o),a.same.same (same_new h o)⟩
theorem Went.put {p:Addr} {H H1:Hp} {l:Addr} (a:Went p H H1) (n:p≠l) (h:H l=none) (o:HO):Went p H (upd H1 l o):=
 ⟨let ⟨x,y,z,e,r⟩:=a.pot; ⟨x,y,z,by rw [upd_ne n]; exact e,r⟩,fun b u nb e=>by rw [upd_ne (ne_of_none e h)]; exact a.same b u nb e⟩
theorem Went.ne {p l:Addr} {H H1:Hp} (a:Went p H H1) (h:H1 l=none):p≠l:=by obtain⟨o,e⟩:=a.pot.some; exact ne_of_none e h
theorem Went.free {p l:Addr} {H H1:Hp} (a:Went p H H1) (h:H1 l=none):H l=none:=a.same.free (Ne.symm (a.ne h)) h
theorem Went.refl {p:Addr} {H:Hp} (h:PotAt H p):Went p H H:=⟨h,SameX.refl _ _⟩
theorem Went.at {p l:Addr} {H H1:Hp} {o:HO} (a:Went p H H1) (n:l≠p) (h:H l=some o):H1 l=some o:=a.same l o n h
end
def LT (H:Hp) (a:Addr) (xs:List V):Prop:=H a=some (.lst xs)∨H a=some (.tup xs)
theorem LT.mono {H H':Hp} {a:Addr} {xs:List V} (h:LT H a xs) (k:∀ o,H a=some o→H' a=some o):LT H' a xs:=h.elim (fun e=>.inl (k _ e)) fun e=>.inr (k _ e)
end Few
namespace L2
open PySem PySem.Spec PyProof.Rows
section
variable {X:Cx} {tg:Expr}
theorem PI.or {l:Expr} {wi wi':TI} (h:PI X tg l wi) (h':PI X tg l wi'):PI X tg l (fun σ H R=>wi σ H R∨wi' σ H R):=by
 intro pins s σ H R I q
 rcases q with q | q
 ·exact h pins s σ H R I q
 ·exact h' pins s σ H R I q
def iSeq (K:PySem.W.Frag) (tl:TE):TI:=fun σ H R=>iList K tl σ H R∨iTup K tl σ H R
theorem pi_seq {l:Expr} {tl:TE} (hl:PE X l tl):PI X tg l (iSeq X.K tl):=(pi_list hl).or (pi_tup hl)
theorem kit_list2 (K:PySem.W.Frag):PySem.W.kitAny K (.type "list") [.type "list",.type "tuple"]=some true:=rfl
theorem kit_tuple2 (K:PySem.W.Frag):PySem.W.kitAny K (.type "tuple") [.type "list",.type "tuple"]=some true:=rfl
theorem kit_str1 (K:PySem.W.Frag):PySem.W.kitOne K (.type "str") (.type "str")=some true:=rfl
theorem seq_mid {t u:TS} {D:Ends} {σ:St} {H:Hp} (Mid:St→Hp→Prop) (hu:∀ σ' H',Mid σ' H'→u D σ' H') (h:(∀ σ' H',Mid σ' H'→u D σ' H')→t {D with nx:=u D} σ H):tSeq t u D σ H:=h hu
end
end L2
namespace Few
open PySem L2
theorem LT.sq {K:PySem.W.Frag} {H:Hp} {a:Addr} {xs:List V} (h:LT H a xs):SqL K H a xs∨SqT K H a xs:=h.elim (fun e=>.inl (SqL.of e)) fun e=>.inr (SqT.of e)
theorem LT.isi2 {K:PySem.W.Frag} {H:Hp} {p:Addr} {xs:List V} (h:LT H p xs):∃ (t:Value),TyOf K H (.ref p) t∧PySem.W.kitAny K t [.type "list",.type "tuple"]=Option.some true:=by
 rcases h with h | h
 ·exact⟨_,.lst h,kit_list2 K⟩
 ·exact⟨_,.tup h,kit_tuple2 K⟩
structure Over (H:Hp) (a:Addr) (xs:List V) (J:It):Prop where
 go:∀ i H',(∀ o,H a=Option.some o→H' a=Option.some o)→i<xs.length→J.go i H'∧∀ x H'',J.yld i H' x H''→H''=H'∧xs[i]? = Option.some x
 stop:∀ H',(∀ o,H a=Option.some o→H' a=Option.some o)→J.stop xs.length H'
theorem LT.over {K:PySem.W.Frag} {H:Hp} {a:Addr} {xs:List V} {i:Nat} {σ:St} {R:It→Hp→Prop} (h:LT H a xs) (hv:σ[i]? = Option.some (Option.some (.ref a))) (k:∀ J,Over H a xs J→R J H):iSeq K (tVar i) σ H R:=by
 rcases h with h | h
 ·exact .inl ⟨_,hv,a,rfl,⟨_,SqL.of h⟩,k _ ⟨fun i H' kp hi=>go_list (SqL.of (kp _ h)) hi,fun H' kp=>stop_list (SqL.of (kp _ h))⟩⟩
 ·exact .inr ⟨_,hv,a,rfl,⟨_,SqT.of h⟩,k _ ⟨fun i H' kp hi=>go_tup (SqT.of (kp _ h)) hi,fun H' kp=>stop_tup (SqT.of (kp _ h))⟩⟩
theorem Over.loop {J:It} {H0:Hp} {a:Addr} {xs:List V} {g:TG} {tb:TS} {D:Ends} {σ:St} {H:Hp} (O:Over H0 a xs J) (Pv:Nat→St→Hp→Prop) (h0:Pv 0 σ H) (hl:∀ i σ H,i≤xs.length→Pv i σ H→∀ o,H0 a=Option.some o→H a=Option.some o)
  (hs:∀ i x σ H,xs[i]? = Option.some x→Pv i σ H→g x σ H fun σ2 H2=>tb {D with nx:=Pv (i+1),ct:=Pv (i+1),bk:=D.nx} σ2 H2) (hd:∀ σ H,Pv xs.length σ H→D.nx σ H) :
  ∃ W:Nat→Nat→St→Hp→Prop,(∃ m,W 0 m σ H)∧∀ i m σ H,W i m σ H→
   (J.stop i H∧D.nx σ H)∨(J.go i H∧∃ N:St→Hp→Prop,(∀ σ' H',N σ' H'→∃ m',m'<m∧W (i+1) m' σ' H')∧∀ x H',J.yld i H x H'→g x σ H' fun σ2 H2=>tb {D with nx:=N,ct:=N,bk:=D.nx} σ2 H2):=by
 refine⟨fun i m σ H=>m=xs.length-i∧i≤xs.length∧Pv i σ H,⟨xs.length,by simp,Nat.zero_le _,h0⟩,?_⟩
 rintro i m σ H ⟨rfl,hi,p⟩
 have q:=hl i σ H hi p
 by_cases hlt:i<xs.length
 ·obtain⟨g1,g2⟩:=O.go i H q hlt
  refine .inr ⟨g1,Pv (i+1),fun σ' H' p'=>⟨xs.length - (i+1),by omega,rfl,hlt,p'⟩,fun x H' y=>?_⟩
  obtain⟨e,y'⟩:=g2 x H' y
  subst e
  exact hs i x σ _ y' p
 ·have e:i=xs.length:=by omega
  subst e
  exact .inl ⟨O.stop H q,hd σ H p⟩
theorem Over.comp {J:It} {H0:Hp} {a:Addr} {xs:List V} {te:TE} {σ:St} {H:Hp} {Q:VK} (O:Over H0 a xs J) (Pv:Nat→List V→Hp→Prop) (h0:Pv 0 [] H) (hz:xs.length≤sizeLine) (hl:∀ i ys H,i≤xs.length→Pv i ys H→∀ o,H0 a=Option.some o→H a=Option.some o)
  (hs:∀ i x ys H,xs[i]? = Option.some x→ys.length=i→Pv i ys H→te (Option.some x::σ) H fun v H3=>Pv (i+1) (ys++[v]) H3)
  (hd:∀ ys H,ys.length=xs.length→Pv xs.length ys H→∀ D,H D=none→Q (.ref D) (upd H D (.lst ys))):CompOk 1 J (gName 0) te σ H Q:=
 comp_it1 xs.length Pv (fun i x=>xs[i]? = Option.some x) h0 hz (fun i ys H hi hy p=>O.go i H (hl i ys H (Nat.le_of_lt hi) p) hi) (fun ys H hy p=>O.stop H (hl _ ys H (Nat.le_refl _) p)) (fun i x ys H hi hx hy p=>hs i x ys H hx hy p) hd
theorem ifT {c A B:Prop} [Decidable c] (hc:c) (h:A):if c then A else B:=by rw [if_pos hc]; exact h
theorem ifF {c A B:Prop} [Decidable c] (hc:¬ c) (h:B):if c then A else B:=by rw [if_neg hc]; exact h
theorem LT.same {H H':Hp} {a:Addr} {xs:List V} (h:LT H a xs) (s:Same H H'):LT H' a xs:=h.mono fun o e=>s a o e
theorem inAbc:∀ i,i<26→(!(Builtin.Str.occurrences abc ⟨#[97+i]⟩ 0 abc.length 1).isEmpty)=true:=by decide +kernel
theorem inAbc' {c:Nat} (h0:97≤c) (h1:c≤122):(!(Builtin.Str.occurrences abc ⟨#[c]⟩ 0 abc.length 1).isEmpty)=true:=by
 have:=inAbc (c-97) (by omega)
 rwa [show 97+(c-97)=c by omega] at this
structure Gs (K:PySem.W.Frag) (mg:Str→Option Value):Prop where
 letters:∃ u,mg "LETTERS"=some u∧RelV (.str abc) u
 longest:∃ u,mg "LONGEST_NAME"=some u∧RelV (.int 12) u
 mkinds:∃ u,mg "MOST_KINDS"=some u∧RelV (.int 4) u
 msigns:∃ u,mg "MOST_SIGNS"=some u∧RelV (.int 8) u
 mplaces:∃ u,mg "MOST_PLACES"=some u∧RelV (.int 2) u
 words:∃ a,mg "WORDS_OF_SAYINGS"=some (.ref a)∧∀ H,SqT K H a (sayWords.map V.str)
theorem flat_strs:∀ ws:List Str,(ws.map V.str).all flatV=true
 | []=>rfl
 | x::r=>by
  show (flatV (V.str x)&&(r.map V.str).all flatV)=true
  rw [flat_strs r]; rfl
theorem n_tk:¬ (("kept_ties":Str)="kept_kinds"):=by decide +kernel
theorem n_fk:¬ (("kept_functions":Str)="kept_kinds"):=by decide +kernel
theorem n_ft:¬ (("kept_functions":Str)="kept_ties"):=by decide +kernel
def flK (kt:Addr):List (Str×V):=putF "kept_kinds" (.ref kt) []
def flT (kt tt:Addr):List (Str×V):=putF "kept_ties" (.ref tt) (flK kt)
def flF (kt tt ft:Addr):List (Str×V):=putF "kept_functions" (.ref ft) (flT kt tt)
theorem flK_kinds (kt:Addr):(flK kt).lookup ("kept_kinds":Str)=some (.ref kt):=by unfold flK; rw [lookup_putF,if_pos rfl]
theorem flT_kinds (kt tt:Addr):(flT kt tt).lookup ("kept_kinds":Str)=some (.ref kt):=by unfold flT; rw [lookup_putF,if_neg (fun z=>n_tk z.symm)]; exact flK_kinds kt
theorem flT_ties (kt tt:Addr):(flT kt tt).lookup ("kept_ties":Str)=some (.ref tt):=by unfold flT; rw [lookup_putF,if_pos rfl]
theorem flF_kinds (kt tt ft:Addr):(flF kt tt ft).lookup ("kept_kinds":Str)=some (.ref kt):=by unfold flF; rw [lookup_putF,if_neg (fun z=>n_fk z.symm)]; exact flT_kinds kt tt
theorem flF_ties (kt tt ft:Addr):(flF kt tt ft).lookup ("kept_ties":Str)=some (.ref tt):=by unfold flF; rw [lookup_putF,if_neg (fun z=>n_ft z.symm)]; exact flT_ties kt tt
theorem flF_funs (kt tt ft:Addr):(flF kt tt ft).lookup ("kept_functions":Str)=some (.ref ft):=by unfold flF; rw [lookup_putF,if_pos rfl]
theorem flK_len (kt:Addr):(flK kt).length<1000:=Nat.lt_of_le_of_lt (length_putF _ _ _) (by decide)
theorem flT_len (kt tt:Addr):(flT kt tt).length<1000:=by
 have h1:=length_putF ("kept_ties":Str) (.ref tt) (flK kt)
 have h2:=length_putF ("kept_kinds":Str) (.ref kt) []
 unfold flT flK at *
 simp only [List.length_nil] at h2
 omega
theorem fl_no {kt tt ft:Addr} {m:Str} (h1:¬ m="kept_functions") (h2:¬ m="kept_ties") (h3:¬ m="kept_kinds"):(flF kt tt ft).lookup m=none:=by
 unfold flF flT flK
 rw [lookup_putF,if_neg h1,lookup_putF,if_neg h2,lookup_putF,if_neg h3]
 rfl
abbrev Any:Addr→Prop:=fun _=>True
def Tups (H H':Hp):Prop:=∀ a xs,H a=some (.tup xs)→H' a=some (.tup xs)
theorem Same.tups {H H':Hp} (s:Same H H'):Tups H H':=fun a xs e=>s a _ e
theorem cat_of {K:PySem.W.Frag} {H:Hp} {a b:Addr} {xs ys:List V} {Q:VK} (ha:H a=some (.tup xs)) (hb:H b=some (.tup ys)) (hl:xs.length+ys.length≤sizeLine) (q:∀ p H',H' p=some (.tup (xs++ys))→Same H H'→Q (.ref p) H'):rCatTT K (.ref a) (.ref b) H Q:=by
 refine⟨a,b,xs,ys,rfl,rfl,SqT.of ha,SqT.of hb,hl,fun e=>?_,fun _ e=>?_,fun _ _ p hp=>q p _ upd_same (same_new hp _)⟩
 ·subst e; exact q b H hb (Same.refl _)
 ·subst e; exact q a H (by rw [List.append_nil]; exact ha) (Same.refl _)
structure ClS (K:PySem.W.Frag) (C:Addr):Prop where
 cl:Cls K C
 nK:NoAttr K C "kept_kinds"
 nT:NoAttr K C "kept_ties"
 nF:NoAttr K C "kept_functions"
structure TieR where
 nm:Str
 ps:List Str
structure FunR where
 nm:Str
 ps:List Str
 kd:Str
def strsD (ws:List Str):List PyData:=ws.map PyData.str
def tieL (t:TieR):PyData:=.tuple [.str t.nm,.list (strsD t.ps)]
def funL (t:FunR):PyData:=.tuple [.str t.nm,.list (strsD t.ps),.str t.kd]
def bookL (ks:List Str) (ts:List TieR) (fs:List FunR):PyData:=.tuple [.list (strsD ks),.list (ts.map tieL),.list (fs.map funL)]
structure BookOk (ks:List Str) (ts:List TieR) (fs:List FunR):Prop where
 kn:ks.Nodup
 k1:1≤ks.length
 k4:ks.length≤4
 kn2:∀ k∈ks,isNm k
 sn:(ts.map (·.nm)++fs.map (·.nm)).Nodup
 sl:ts.length+fs.length≤8
 tn:∀ t∈ts,isSg t.nm∧t.ps.length≤2∧∀ k∈t.ps,k∈ks
 fn:∀ t∈fs,isSg t.nm∧t.ps.length≤2∧(∀ k∈t.ps,k∈ks)∧t.kd∈ks
def menuK:List Str:=["a","b","c","all","not","x","kind","size","r","f","abcdefghijkl"]
def menuS:List Str:=["r","s","q","f","g","c","x","say","holds","none","tie","next","zyxwvutsrqpo"]
theorem menuK_nm:∀ k∈menuK,isNm k:=by unfold isNm; decide +kernel
theorem menuS_sg:∀ k∈menuS,isSg k:=by unfold isSg isNm; decide +kernel
theorem menuK_nd:menuK.Nodup:=by decide +kernel
theorem menuS_nd:menuS.Nodup:=by decide +kernel
theorem zcq:LD "_law_functions":=by decide +kernel
theorem zcr:LS "_law_functions":=by decide +kernel
theorem zcs:LD "_law_kinds":=by decide +kernel
theorem zct:LS "_law_kinds":=by decide +kernel
theorem zcu:LD "_law_most_kinds":=by decide +kernel
theorem zcv:LS "_law_most_kinds":=by decide +kernel
theorem zcw:LD "_law_most_signs":=by decide +kernel
theorem zcx:LS "_law_most_signs":=by decide +kernel
theorem zcy:LD "_law_name":=by decide +kernel
theorem zcz:LS "_law_name":=by decide +kernel
theorem zc0:LD "_law_names":=by decide +kernel
theorem zc1:LS "_law_names":=by decide +kernel
theorem zc2:LD "_law_places":=by decide +kernel
theorem zc3:LS "_law_places":=by decide +kernel
theorem zc4:LD "_law_ties":=by decide +kernel
theorem zc5:LS "_law_ties":=by decide +kernel
theorem zc6:LD "_law_unlike":=by decide +kernel
section
variable {P:Program} {w:World} {K:PySem.W.Frag} {mg:Str→Option Value} {base:Heap}
abbrev s_law_book:Stmt:=top 44
theorem zc7:FnScope ["_law_pot_here","_law_most_kinds","_law_most_signs","_law_menu","_law_kinds","_law_names","_law_ties","_law_functions","_law_name","_law_places"] ["_law_pot_here","_law_most_kinds","_law_most_signs"] (defScope s_law_book):=⟨rfl,rfl,rfl,by decide +kernel,rfl,by decide +kernel,by decide +kernel⟩
theorem zc8:LN .globalImplicit s_law_book "_law_draw":=by decide +kernel
theorem zc9:LN .local s_law_book "_law_functions":=by decide +kernel
theorem zda:LN .cell s_law_book "_law_kinds":=by decide +kernel
theorem zdb:LN .local s_law_book "_law_menu":=by decide +kernel
theorem zdc:LN .local s_law_book "_law_most_kinds":=by decide +kernel
theorem zdd:LN .local s_law_book "_law_most_signs":=by decide +kernel
theorem zde:LN .local s_law_book "_law_name":=by decide +kernel
theorem zdf:LN .local s_law_book "_law_names":=by decide +kernel
theorem zdg:LN .local s_law_book "_law_places":=by decide +kernel
theorem zdh:LN .cell s_law_book "_law_pot_here":=by decide +kernel
theorem zdi:LN .local s_law_book "_law_ties":=by decide +kernel
theorem zdj:LN .globalImplicit s_law_book "_law_unlike":=by decide +kernel
theorem zdk:LN .globalImplicit s_law_book "len":=by decide +kernel
theorem zdl:LN .globalImplicit s_law_book "range":=by decide +kernel
abbrev QS1:Scope:={kind:=PySem.ScopeKind.function,names:=[ (PySem.Str.ofString ".0",PySem.NameKind.local),(PySem.Str.ofString "_law_k",PySem.NameKind.local),(PySem.Str.ofString "_law_draw",PySem.NameKind.globalImplicit),(PySem.Str.ofString "len",PySem.NameKind.globalImplicit),(PySem.Str.ofString "_law_kinds",PySem.NameKind.free),(PySem.Str.ofString "_law_pot_here",PySem.NameKind.free)],isGenerator:=false,isCoroutine:=false,more:=[]:PySem.Scope}
theorem zdm:CompSc 1 ["_law_k","_law_pot_here","_law_most_kinds","_law_most_signs","_law_menu","_law_kinds","_law_names","_law_ties","_law_functions","_law_name","_law_places"] ["_law_pot_here","_law_most_kinds","_law_most_signs","_law_menu","_law_kinds","_law_names","_law_ties","_law_functions","_law_name","_law_places"] (defScope s_law_book) QS1:=⟨rfl,by decide +kernel,by decide +kernel,by decide +kernel,by decide +kernel,rfl,by decide +kernel⟩
theorem zdn:LC .globalImplicit QS1 "_law_draw":=by decide +kernel
theorem zdo:LC .local QS1 "_law_k":=by decide +kernel
theorem zdp:LC .free QS1 "_law_kinds":=by decide +kernel
theorem zdq:LC .free QS1 "_law_pot_here":=by decide +kernel
theorem zdr:LC .globalImplicit QS1 "len":=by decide +kernel
def spBook:Sp:=fun vs H Q _=>∃ (p:Addr) (mk ms:Nat),vs=[.ref p,.int mk,.int ms]∧PotAt H p∧1≤mk∧mk≤4∧ms≤8∧
 ∀ v H' ks ts fs,RdV (fun a=>H a=none) H' v (bookL ks ts fs)→BookOk ks ts fs→ks.length≤mk→ts.length+fs.length≤ms→Went p H H'→Q v H'
theorem ok_book (F:FunAt K mg "_law_book" s_law_book ["_law_pot_here","_law_most_kinds","_law_most_signs"]) (Z:Bl mg) (D_law_draw:Def P w K mg base "_law_draw" 1 ["_law_pot_here","_law_many"] spDraw)
  (D_law_unlike:Def P w K mg base "_law_unlike" 2 ["_law_pot_here","_law_many","_law_menu"] (spUnlike (K:=K))) :
  Def P w K mg base "_law_book" 3 ["_law_pot_here","_law_most_kinds","_law_most_signs"] spBook:=by
 have SC:=zc7
 refine F.mk' (k:=2) zc7 (fun vs H Q E h=>?_) (fun f cdv A outer s H vs Q E hr h=>?_)
 ·obtain⟨p,mk,ms,rfl,_⟩:=h
  rfl
 ·obtain⟨p,mk,ms,rfl,hp,hm1,hm4,hms,q⟩:=h
  refine'⟨_,?derivation,?_⟩
  case derivation=>refine' pss_cons ?Aa ?Ba;(case Aa=>refine' ps_set (i:=3) (x:=Str.ofString "_law_menu") ?Ca ?Da ?Ea ?Fa ?Ga ?Ha;(case Ca=>exact SC.nd);(case Da=>exact rfl);(case Ea=>exact(Or.inl zdb));(case Fa=>refine' pe_lst ?Ia;case Ia=>refine' pa_strs (by repeat constructor));(case Ga=>rfl);case Ha=>exact .inl rfl);case Ba=>refine' pss_cons ?Ja ?Ka;(case Ja=>refine' ps_set (i:=4) (x:=Str.ofString "_law_kinds") ?La ?Ma ?Na ?Oa ?Pa ?Qa;(case La=>exact SC.nd);(case Ma=>exact rfl);(case Na=>exact(Or.inr zda));(case Oa=>refine' pe_def (hdb:=zc6) D_law_unlike (hr.mono (by decide)) zdj ?Ra rfl rfl;case Ra=>refine' pa_cons (pq 0 (visC zdh) zbn zbo) ?Sa ?Ta;(case Sa=>refine' pa_cons ?Ua ?Va ?Wa;(case Ua=>refine' pe_op op_add ?Xa ?Ya;(case Xa=>exact pe_int);case Ya=>refine' pe_def (hdb:=zbe) D_law_draw (hr.mono (by decide)) zc8 ?Za rfl rfl;case Za=>refine' pa_cons (pq 0 (visC zdh) zbn zbo) ?Ab ?Bb;(case Ab=>refine' pa_cons (pq 1 (visL zdc) zcu zcv) pa_nil ?Cb;case Cb=>rfl);case Bb=>rfl);(case Va=>refine' pa_cons (pq 3 (visL zdb) zbl zbm) pa_nil ?Db;case Db=>rfl);case Wa=>rfl);case Ta=>rfl);(case Pa=>rfl);case Qa=>exact .inl rfl);case Ka=>refine' pss_cons ?Eb ?Fb;(case Eb=>refine' ps_set (i:=3) (x:=Str.ofString "_law_menu") ?Gb ?Hb ?Ib ?Jb ?Kb ?Lb;(case Gb=>exact SC.nd);(case Hb=>exact rfl);(case Ib=>exact(Or.inl zdb));(case Jb=>refine' pe_lst ?Mb;case Mb=>refine' pa_strs (by repeat constructor));(case Kb=>rfl);case Lb=>exact .inl rfl);case Fb=>refine' pss_cons ?Nb ?Ob;(case Nb=>refine' ps_set (i:=5) (x:=Str.ofString "_law_names") ?Pb ?Qb ?Rb ?Sb ?Tb ?Ub;(case Pb=>exact SC.nd);(case Qb=>exact rfl);(case Rb=>exact(Or.inl zdf));(case Sb=>refine' pe_def (hdb:=zc6) D_law_unlike (hr.mono (by decide)) zdj ?Vb rfl rfl;case Vb=>refine' pa_cons (pq 0 (visC zdh) zbn zbo) ?Wb ?Xb;(case Wb=>refine' pa_cons ?Yb ?Zb ?Ac;(case Yb=>refine' pe_def (hdb:=zbe) D_law_draw (hr.mono (by decide)) zc8 ?Bc rfl rfl;case Bc=>refine' pa_cons (pq 0 (visC zdh) zbn zbo) ?Cc ?Dc;(case Cc=>refine' pa_cons ?Ec pa_nil ?Fc;(case Ec=>refine' pe_op op_add (pq 2 (visL zdd) zcw zcx) ?Gc;case Gc=>exact pe_int);case Fc=>rfl);case Dc=>rfl);(case Zb=>refine' pa_cons (pq 3 (visL zdb) zbl zbm) pa_nil ?Hc;case Hc=>rfl);case Ac=>rfl);case Xb=>rfl);(case Tb=>rfl);case Ub=>exact .inl rfl);case Ob=>refine' pss_cons ?Ic ?Jc;(case Ic=>refine' ps_set (i:=6) (x:=Str.ofString "_law_ties") ?Kc ?Lc ?Mc ?Nc ?Oc ?Pc;(case Kc=>exact SC.nd);(case Lc=>exact rfl);(case Mc=>exact(Or.inl zdi));(case Nc=>refine' pe_lst pa_nil);(case Oc=>rfl);case Pc=>exact .inl rfl);case Jc=>refine' pss_cons ?Qc ?Rc;(case Qc=>refine' ps_set (i:=7) (x:=Str.ofString "_law_functions") ?Sc ?Tc ?Uc ?Vc ?Wc ?Xc;(case Sc=>exact SC.nd);(case Tc=>exact rfl);(case Uc=>exact(Or.inl zc9));(case Vc=>refine' pe_lst pa_nil);(case Wc=>rfl);case Xc=>exact .inl rfl);case Rc=>refine' pss_cons ?Yc ?Zc;(case Yc=>refine' ps_for PassesOwn.never rfl ?Ad ?Bd ?Cd ?Dd;(case Ad=>refine' pi_list (pq 5 (visL zdf) zc0 zc1));(case Bd=>refine' pg_name (i:=8) (x:=Str.ofString "_law_name") SC.nd rfl (Or.inl zde) (.inl rfl));(case Cd=>refine' pss_cons ?Ed ?Fd;(case Ed=>refine' ps_setComp (i:=9) (x:=Str.ofString "_law_places") SC.nd ?Gd (Or.inl zdg) ?Hd noxe ?Id zdm.at ?Jd ?Kd ?Ld ?Md ?Nd;(case Gd=>exact rfl);(case Hd=>exact rfl);(case Id=>exact rfl);(case Jd=>refine' pi_range1 zdl Z.n_range ?Od rfl;case Od=>refine' pa_cons ?Pd pa_nil ?Qd;(case Pd=>refine' pe_ix ix_list ?Rd ?Sd ?Td;(case Rd=>refine' pe_lst ?Ud;case Ud=>refine' pa_cons ?Vd ?Wd ?Xd;(case Vd=>exact pe_int);(case Wd=>refine' pa_cons ?Yd ?Zd ?Ae;(case Yd=>exact pe_int);(case Zd=>refine' pa_cons ?Be ?Ce ?De;(case Be=>exact pe_int);(case Ce=>refine' pa_cons ?Ee pa_nil ?Fe;(case Ee=>exact pe_int);case Fe=>rfl);case De=>rfl);case Ae=>rfl);case Xd=>rfl);(case Sd=>refine' pe_def (hdb:=zbe) D_law_draw (hr.mono (by decide)) zc8 ?Ge rfl rfl;case Ge=>refine' pa_cons (pq 0 (visC zdh) zbn zbo) ?He ?Ie;(case He=>refine' pa_cons ?Je pa_nil ?Ke;(case Je=>exact pe_int);case Ke=>rfl);case Ie=>rfl);case Td=>intro _ _;exact rfl);case Qd=>rfl);(case Kd=>intro _ _ _ _ _;refine' pg_name (i:=0) zdm.nd rfl (locO zdo) (.inr (lookup_relabel_local zdo)));(case Ld=>intro _ _ _ _ _;refine' pe_ix ix_list (pq 5 (visF zdp) zcs zct) ?Le ?Me;(case Le=>refine' pe_def (hdb:=zbe) D_law_draw (hr.mono (by decide)) (glO zdn) ?Ne rfl rfl;case Ne=>refine' pa_cons (pq 1 (visF zdq) zbn zbo) ?Oe ?Pe;(case Oe=>refine' pa_cons ?Qe pa_nil ?Re;(case Qe=>refine' pe_callB (hn:=zbw) (hdb:=zbv) call_len_seq (glO zdr) Z.n_len bt_len ?Se rfl rfl;case Se=>refine' pa_cons (pq 5 (visF zdp) zcs zct) pa_nil ?Te;case Te=>rfl);case Re=>rfl);case Pe=>rfl);case Me=>intro _ _;exact rfl);(case Md=>intro _; rfl);case Nd=>exact .inl rfl);case Fd=>refine' pss_one ?Ue;case Ue=>refine' ps_if ?Ve ?We ?Xe;(case Ve=>refine' pt_cmpR op_lt ?Ye ?Ze (nomark _);(case Ye=>refine' pe_def (hdb:=zbe) D_law_draw (hr.mono (by decide)) zc8 ?Af rfl rfl;case Af=>refine' pa_cons (pq 0 (visC zdh) zbn zbo) ?Bf ?Cf;(case Bf=>refine' pa_cons ?Df pa_nil ?Ef;(case Df=>exact pe_int);case Ef=>rfl);case Cf=>rfl);case Ze=>exact pe_int);(case We=>refine' pss_one ?Ff;case Ff=>refine' ps_expr ?Gf rfl;case Gf=>refine' pe_bm PySem.F.plainAttrs_list PySem.F.slot_list_append PySem.F.type_list_append mt_append (pq 6 (visL zdi) zc4 zc5) ?Hf rfl rfl rfl rfl rfl;case Hf=>refine' pa_cons ?If pa_nil ?Jf;(case If=>refine' pe_tup ?Kf;case Kf=>refine' pa_cons (pq 8 (visL zde) zcy zcz) ?Lf ?Mf;(case Lf=>refine' pa_cons (pq 9 (visL zdg) zc2 zc3) pa_nil ?Nf;case Nf=>rfl);case Mf=>rfl);case Jf=>rfl);case Xe=>refine' pss_one ?Of;case Of=>refine' ps_expr ?Pf rfl;case Pf=>refine' pe_bm PySem.F.plainAttrs_list PySem.F.slot_list_append PySem.F.type_list_append mt_append (pq 7 (visL zc9) zcq zcr) ?Qf rfl rfl rfl rfl rfl;case Qf=>refine' pa_cons ?Rf pa_nil ?Sf;(case Rf=>refine' pe_tup ?Tf;case Tf=>refine' pa_cons (pq 8 (visL zde) zcy zcz) ?Uf ?Vf;(case Uf=>refine' pa_cons (pq 9 (visL zdg) zc2 zc3) ?Wf ?Xf;(case Wf=>refine' pa_cons ?Yf pa_nil ?Zf;(case Yf=>refine' pe_ix ix_list (pq 4 (visC zda) zcs zct) ?Ag ?Bg;(case Ag=>refine' pe_def (hdb:=zbe) D_law_draw (hr.mono (by decide)) zc8 ?Cg rfl rfl;case Cg=>refine' pa_cons (pq 0 (visC zdh) zbn zbo) ?Dg ?Eg;(case Dg=>refine' pa_cons ?Fg pa_nil ?Gg;(case Fg=>refine' pe_callB (hn:=zbw) (hdb:=zbv) call_len_seq zdk Z.n_len bt_len ?Hg rfl rfl;case Hg=>refine' pa_cons (pq 4 (visC zda) zcs zct) pa_nil ?Ig;case Ig=>rfl);case Gg=>rfl);case Eg=>rfl);case Bg=>intro _ _;exact rfl);case Zf=>rfl);case Xf=>rfl);case Vf=>rfl);case Sf=>rfl);case Dd=>intro _; rfl);case Zc=>refine' pss_one ?Jg;case Jg=>refine' ps_ret ?Kg;case Kg=>refine' pe_tup ?Lg;case Lg=>refine' pa_cons (pq 4 (visC zda) zcs zct) ?Mg ?Ng;(case Mg=>refine' pa_cons (pq 6 (visL zdi) zc4 zc5) ?Og ?Pg;(case Og=>refine' pa_cons (pq 7 (visL zc9) zcq zcr) pa_nil ?Qg;case Qg=>rfl);case Pg=>rfl);case Ng=>rfl
  refine⟨by show 11≤sizeLine; decide,fun M1 hM1=>?_⟩
  have W1:=(Went.refl hp).new hM1 (.lst (menuK.map V.str))
  refine⟨_,rfl,_,rfl,_,rfl,p,_,rfl,W1.pot,by omega,by omega,fun r1 H1 a0 a1 hp1 s1=>?_⟩
  have W2:=W1.mk1 hp1 s1
  have hM1':H1 M1=some (.lst (menuK.map V.str)):=s1 M1 _ (Ne.symm ((Went.refl hp).ne hM1)) upd_same
  refine⟨_,_,rfl,rfl,_,rfl,p,M1,(1+r1).toNat,menuK,?_,hp1,SqL.of hM1',?_,by decide,menuK_nd,fun kA ks H2 hkA hkA2 hkl hknd hkin W3=>?_⟩
  ·show [V.ref p,V.int (1+r1),V.ref M1]=_
   rw [Int.toNat_of_nonneg (by omega)]
  ·show (1+r1).toNat≤11
   omega
  have W4:=W2.trans W3
  have kfree:H kA=none:=W2.free hkA
  have npk:kA≠p:=by rintro rfl; obtain⟨o,e⟩:=hp.some; rw [kfree] at e; cases e
  have hknm:∀ k∈ks,isNm k:=fun k hk=>menuK_nm k (hkin k hk)
  generalize hH3:H2=H3 at *
  have hk3:=hkA2
  have W5:=W4
  refine⟨by show 13≤sizeLine; decide,fun M2 hM2=>?_⟩
  have W6:=W5.new hM2 (.lst (menuS.map V.str))
  have hk6:(upd H3 M2 (.lst (menuS.map V.str))) kA=some (.lst (ks.map V.str)):=by rw [upd_ne (ne_of_none hk3 hM2)]; exact hk3
  refine⟨_,rfl,_,rfl,_,rfl,_,_,rfl,rfl,p,_,rfl,W6.pot,by omega,by omega,fun r3 H7 c0 c1 hp7 s7=>?_⟩
  have W7:=W6.mk1 hp7 s7
  have hM7:H7 M2=some (.lst (menuS.map V.str)):=s7 M2 _ (Ne.symm (W5.ne hM2)) upd_same
  have hk7:H7 kA=some (.lst (ks.map V.str)):=s7 kA _ npk hk6
  refine⟨_,rfl,p,M2,r3.toNat,menuS,?_,hp7,SqL.of hM7,?_,by decide,menuS_nd,fun nA ns H8 hnA hnA2 hnl hnnd hnin W8=>?_⟩
  ·show [V.ref p,V.int r3,V.ref M2]=_
   rw [Int.toNat_of_nonneg c0]
  ·show r3.toNat≤13
   omega
  have W9:=W7.trans W8
  have nfree:H nA=none:=W7.free hnA
  have npn:nA≠p:=by rintro rfl; obtain⟨o,e⟩:=hp.some; rw [nfree] at e; cases e
  have hk8:H8 kA=some (.lst (ks.map V.str)):=W8.at npk hk7
  have hnsg:∀ k∈ns,isSg k:=fun k hk=>menuS_sg k (hnin k hk)
  have hn9:=hnA2
  have hk9:=hk8
  have W10:=W9
  refine⟨by show 0≤sizeLine; decide,fun tA htA=>?_⟩
  have W11:=W10.new htA (.lst [])
  refine⟨by show 0≤sizeLine; decide,fun fA hfA=>?_⟩
  have W12:=W11.new hfA (.lst [])
  have tfree:H tA=none:=W10.free htA
  have ffree:H fA=none:=W11.free hfA
  have ntf:tA≠fA:=ne_of_none upd_same hfA
  have hpt:p≠tA:=W10.ne htA
  have hpf:p≠fA:=W11.ne hfA
  have nkt:kA≠tA:=ne_of_none hk9 htA
  have nkf:kA≠fA:=ne_of_none (by rw [upd_ne nkt]; exact hk9) hfA
  have nnt:nA≠tA:=ne_of_none hn9 htA
  have nnf:nA≠fA:=ne_of_none (by rw [upd_ne nnt]; exact hn9) hfA
  have pne:∀ a,H a=none→a≠p:=fun a e=>by rintro rfl; obtain⟨o,e2⟩:=hp.some; rw [e] at e2; cases e2
  have keepR:∀ {H2 H3:Hp} {xs:List V} {ds:List PyData},SameX p H2 H3→RdA (fun a=>H a=none∧a≠tA∧a≠fA) H2 xs ds→RdA (fun a=>H a=none∧a≠tA∧a≠fA) H3 xs ds:=fun s r=>r.mono (fun _ z=>z) fun a o z e=>s a o (pne a z.1) e
  refine⟨_,rfl,nA,rfl,⟨_,SqL.of (by rw [upd_ne nnf,upd_ne nnt]; exact hn9)⟩,for_list (K:=K) (a:=nA) (xs:=ns.map V.str) (fun i σ H2=>∃ (ts:List TieR) (fs:List FunR) (tv fv:List V) (v8 v9:Option V),σ=[some (.ref p),some (.int mk),some (.int ms),some (.ref M2),some (.ref kA),some (.ref nA),some (.ref tA),some (.ref fA),v8,v9]∧
    H2 tA=some (.lst tv)∧RdA (fun a=>H a=none∧a≠tA∧a≠fA) H2 tv (ts.map tieL)∧H2 fA=some (.lst fv)∧RdA (fun a=>H a=none∧a≠tA∧a≠fA) H2 fv (fs.map funL)∧
    (ts.map (·.nm)++fs.map (·.nm)).Perm (ns.take i)∧(∀ t∈ts,isSg t.nm∧t.ps.length≤2∧∀ k∈t.ps,k∈ks)∧(∀ t∈fs,isSg t.nm∧t.ps.length≤2∧(∀ k∈t.ps,k∈ks)∧t.kd∈ks)∧H2 kA=some (.lst (ks.map V.str))∧H2 nA=some (.lst (ns.map V.str))∧Went p H H2)
   ⟨[],[],[],[],none,none,rfl,(by rw [upd_ne ntf]; exact upd_same),.nil,upd_same,.nil,(by simp),(fun _ h=>nomatch h),(fun _ h=>nomatch h),(by rw [upd_ne nkf,upd_ne nkt]; exact hk9),(by rw [upd_ne nnf,upd_ne nnt]; exact hn9),W12⟩
   (fun i σ H2 _ ⟨_,_,_,_,_,_,_,_,_,_,_,_,_,_,_,z,_⟩=>SqL.of z) ?_ ?_⟩
  ·rintro i y σ H2 hi ⟨ts,fs,tv,fv,v8,v9,rfl,hT,rT,hF,rF,hperm,okT,okF,hK,hN,W⟩
   have hil:i<ns.length:=by have:=(List.getElem?_eq_some_iff.mp hi).1; simpa using this
   obtain rfl:y=V.str ns[i]:=by
    have : (ns.map V.str)[i]? = some (V.str ns[i]):=by simp [hil]
    rw [this] at hi; exact(Option.some.inj hi).symm
   have lenT:ts.length+fs.length=i:=by
    have:=hperm.length_eq
    simp only [List.length_append,List.length_map,List.length_take] at this
    omega
   have tvl:tv.length=ts.length:=by rw [rT.length,List.length_map]
   have fvl:fv.length=fs.length:=by rw [rF.length,List.length_map]
   have n8:ns.length≤8:=by omega
   refine⟨by show 4≤sizeLine; decide,fun L hL=>?_⟩
   have V1:=(Went.refl W.pot).new hL (.lst [.int 0,.int 1,.int 1,.int 2])
   refine⟨_,rfl,p,_,rfl,V1.pot,by decide,by decide,fun r5 H10 e0 e1 hp10 s10=>?_⟩
   have V2:=V1.mk1 hp10 s10
   have hL10:H10 L=some (.lst [.int 0,.int 1,.int 1,.int 2]):=s10 L _ (Ne.symm ((Went.refl W.pot).ne hL)) upd_same
   obtain⟨c,hc,hc0,hc2⟩:∃ c:Int,atI [V.int 0,V.int 1,V.int 1,V.int 2] r5=some (V.int c)∧0≤c∧c≤2:=by
    have h4:r5=0∨r5=1∨r5=2∨r5=3:=by omega
    rcases h4 with rfl | rfl | rfl | rfl
    ·exact⟨0,rfl,by decide,by decide⟩
    ·exact⟨1,rfl,by decide,by decide⟩
    ·exact⟨1,rfl,by decide,by decide⟩
    ·exact⟨2,rfl,by decide,by decide⟩
   refine⟨L,_,r5,_,rfl,rfl,SqL.of hL10,hc,c,rfl,by omega,by omega,?_⟩
   intro cl C ex sc Hc
   refine comp_it1 c.toNat (fun j ys H11=>∃ us:List Str,ys=us.map V.str∧(∀ u∈us,u∈ks)∧Went p H2 H11) (fun _ _=>True)
    ⟨[],rfl,(fun _ h=>nomatch h),V2⟩ (Nat.le_trans (show c.toNat≤100 by omega) (show 100≤sizeLine by decide)) (fun i ys H1 hi _ _=>⟨hi,fun x H' y=>⟨y.1,trivial⟩⟩) (fun _ _ _ _=>Nat.le_refl _) ?_ ?_
   ·rintro j x ys H11 hj _ hy ⟨us,rfl,hus,V3⟩
    have hK11:H11 kA=some (.lst (ks.map V.str)):=V3.at npk hK
    refine⟨_,rfl,_,rfl,_,rfl,kA,_,rfl,.inl (SqL.of hK11),p,_,rfl,V3.pot,by rw [List.length_map]; omega,by rw [List.length_map]; omega,fun r6 H12 g0 g1 hp12 s12=>?_⟩
    rw [List.length_map] at g1
    have hr6:r6.toNat<ks.length:=by omega
    refine⟨kA,_,r6,V.str ks[r6.toNat],rfl,rfl,SqL.of (s12 kA _ npk hK11),atI_int g0 (by simp [hr6]),us++[ks[r6.toNat]],by simp,fun u hu=>?_,V3.mk1 hp12 s12⟩
    rcases List.mem_append.mp hu with hu | hu
    ·exact hus u hu
    ·rw [List.mem_singleton.mp hu]; exact List.getElem_mem hr6
   rintro ys H11 hy ⟨us,rfl,hus,V3⟩ D hD
   have hul:us.length≤2:=by
    have : us.length=c.toNat:=by simpa using hy
    omega
   have V4:=V3.new hD (.lst (us.map V.str))
   have W4:Went p H (upd H11 D (.lst (us.map V.str))):=⟨V4.pot,W.same.trans V4.same⟩
   refine⟨_,rfl,p,_,rfl,V4.pot,by decide,by decide,fun r7 H13 k0 k1 hp13 s13=>?_⟩
   refine⟨_,_,rfl,rfl,_,rfl,?_⟩
   have V5:=V4.mk1 hp13 s13
   have W5:Went p H H13:=⟨hp13,W4.same.trans s13⟩
   have hT13:H13 tA=some (.lst tv):=V5.at (Ne.symm hpt) hT
   have hF13:H13 fA=some (.lst fv):=V5.at (Ne.symm hpf) hF
   have hK13:H13 kA=some (.lst (ks.map V.str)):=V5.at npk hK
   have hN13:H13 nA=some (.lst (ns.map V.str)):=V5.at npn hN
   have rT13:=keepR V5.same rT
   have rF13:=keepR V5.same rF
   have nDp:D≠p:=Ne.symm (V3.ne hD)
   have hD13:H13 D=some (.lst (us.map V.str)):=s13 D _ nDp upd_same
   have hDfree:H D=none:=(show Went p H H11 from ⟨V3.pot,W.same.trans V3.same⟩).free hD
   have nDt:D≠tA:=by rintro rfl; rw [V3.at (Ne.symm hpt) hT] at hD; cases hD
   have nDf:D≠fA:=by rintro rfl; rw [V3.at (Ne.symm hpf) hF] at hD; cases hD
   have ptake:ns.take (i+1)=ns.take i++[ns[i]]:=by rw [List.take_succ]; simp [hil]
   refine ite2 (fun _=>?_) (fun _=>?_)
   ·
    refine⟨_,rfl,.inl ⟨rfl,_,SqL.of hT13⟩,_,rfl,_,rfl,by show 2≤sizeLine; decide,fun T hTn=>?_⟩
    have nTp:=W5.ne hTn
    have nTt:T≠tA:=by rintro rfl; rw [hT13] at hTn; cases hTn
    have nTf:T≠fA:=by rintro rfl; rw [hF13] at hTn; cases hTn
    have W6:=W5.new hTn (.tup [.str ns[i],.ref D])
    refine⟨tA,tv,_,rfl,rfl,by rw [upd_ne (Ne.symm nTt)]; exact hT13,Nat.lt_of_lt_of_le (show tv.length<100 by omega) (by decide),?_⟩
    have W7:=W6.put hpt tfree (.lst (tv++[.ref T]))
    have st:∀ a o,(H a=none∧a≠tA∧a≠fA)→H13 a=some o→(upd (upd H13 T (.tup [.str ns[i],.ref D])) tA (.lst (tv++[.ref T]))) a=some o:=fun a o z e=>by rw [upd_ne z.2.1,upd_ne (ne_of_none e hTn)]; exact e
    refine⟨ts++[⟨ns[i],us⟩],fs,tv++[.ref T],fv,_,_,rfl,upd_same,?_,?_,?_,?_,?_,okF,?_,?_,W7⟩
    ·rw [List.map_append]
     refine(rT13.mono (fun _ z=>z) st).snoc (.tup ⟨W5.free hTn,nTt,nTf⟩ (by rw [upd_ne nTt]; exact upd_same) (.cons (.str _) (.cons (.lst ⟨hDfree,nDt,nDf⟩ (st D _ ⟨hDfree,nDt,nDf⟩ hD13) (RdA.strs us)) .nil)))
    ·rw [upd_ne (Ne.symm ntf),upd_ne (Ne.symm nTf)]; exact hF13
    ·exact rF13.mono (fun _ z=>z) st
    ·rw [List.map_append,List.map_cons,List.map_nil,ptake,List.append_assoc]
     refine(List.Perm.append_left _ List.perm_append_comm).trans ?_
     rw [← List.append_assoc]
     exact List.Perm.append_right _ hperm
    ·intro t ht
     rcases List.mem_append.mp ht with ht | ht
     ·exact okT t ht
     ·rw [List.mem_singleton.mp ht]; exact⟨hnsg _ (List.getElem_mem hil),hul,hus⟩
    ·rw [upd_ne nkt,upd_ne (ne_of_none hK13 hTn)]; exact hK13
    ·rw [upd_ne nnt,upd_ne (ne_of_none hN13 hTn)]; exact hN13
   ·
    refine⟨_,rfl,.inl ⟨rfl,_,SqL.of hF13⟩,_,rfl,_,rfl,_,rfl,_,rfl,_,rfl,kA,_,rfl,.inl (SqL.of hK13),p,_,rfl,hp13,by rw [List.length_map]; omega,by rw [List.length_map]; omega,fun r8 H14 m0 m1 hp14 s14=>?_⟩
    rw [List.length_map] at m1
    have hr8:r8.toNat<ks.length:=by omega
    have hK14:=s14 kA _ npk hK13
    have hT14:=s14 tA _ (Ne.symm hpt) hT13
    have hF14:=s14 fA _ (Ne.symm hpf) hF13
    have hN14:=s14 nA _ npn hN13
    have rT14:=keepR s14 rT13
    have rF14:=keepR s14 rF13
    have hD14:=s14 D _ nDp hD13
    have W6:=W5.mk1 hp14 s14
    refine⟨kA,_,r8,V.str ks[r8.toNat],rfl,rfl,SqL.of hK14,atI_int m0 (by simp [hr8]),by show 3≤sizeLine; decide,fun T hTn=>?_⟩
    have nTt:T≠tA:=by rintro rfl; rw [hT14] at hTn; cases hTn
    have nTf:T≠fA:=by rintro rfl; rw [hF14] at hTn; cases hTn
    have W7:=W6.new hTn (.tup [.str ns[i],.ref D,.str ks[r8.toNat]])
    refine⟨fA,fv,_,rfl,rfl,by rw [upd_ne (Ne.symm nTf)]; exact hF14,Nat.lt_of_lt_of_le (show fv.length<100 by omega) (by decide),?_⟩
    have W8:=W7.put hpf ffree (.lst (fv++[.ref T]))
    have st:∀ a o,(H a=none∧a≠tA∧a≠fA)→H14 a=some o→(upd (upd H14 T (.tup [.str ns[i],.ref D,.str ks[r8.toNat]])) fA (.lst (fv++[.ref T]))) a=some o:=fun a o z e=>by rw [upd_ne z.2.2,upd_ne (ne_of_none e hTn)]; exact e
    refine⟨ts,fs++[⟨ns[i],us,ks[r8.toNat]⟩],tv,fv++[.ref T],_,_,rfl,?_,?_,upd_same,?_,?_,okT,?_,?_,?_,W8⟩
    ·rw [upd_ne ntf,upd_ne (Ne.symm nTt)]; exact hT14
    ·exact rT14.mono (fun _ z=>z) st
    ·rw [List.map_append]
     refine(rF14.mono (fun _ z=>z) st).snoc (.tup ⟨W6.free hTn,nTt,nTf⟩ (by rw [upd_ne nTf]; exact upd_same) (.cons (.str _) (.cons (.lst ⟨hDfree,nDt,nDf⟩ (st D _ ⟨hDfree,nDt,nDf⟩ hD14) (RdA.strs us)) (.cons (.str _) .nil))))
    ·rw [List.map_append,List.map_cons,List.map_nil,ptake,← List.append_assoc]
     exact List.Perm.append_right _ hperm
    ·intro t ht
     rcases List.mem_append.mp ht with ht | ht
     ·exact okF t ht
     ·rw [List.mem_singleton.mp ht]; exact⟨hnsg _ (List.getElem_mem hil),hul,hus,List.getElem_mem hr8⟩
    ·rw [upd_ne nkf,upd_ne (ne_of_none hK14 hTn)]; exact hK14
    ·rw [upd_ne nnf,upd_ne (ne_of_none hN14 hTn)]; exact hN14
  ·rintro σ H2 ⟨ts,fs,tv,fv,v8,v9,rfl,hT,rT,hF,rF,hperm,okT,okF,hK,hN,W⟩
   rw [List.length_map,List.take_length] at hperm
   have lenT:ts.length+fs.length=ns.length:=by
    have:=hperm.length_eq
    simpa using this
   refine⟨_,rfl,_,rfl,_,rfl,by show 3≤sizeLine; decide,fun B hB=>?_⟩
   have hs:=same_new hB (.tup [.ref kA,.ref tA,.ref fA])
   refine q _ _ ks ts fs (.tup (W.free hB) upd_same (.cons (.lst kfree (hs _ _ hK) (RdA.strs ks)) (.cons (.lst tfree (hs _ _ hT) (rT.mono (fun _ z=>z.1) fun a o _ e=>hs a o e)) (.cons (.lst ffree (hs _ _ hF) (rF.mono (fun _ z=>z.1) fun a o _ e=>hs a o e)) .nil))))
    ⟨hknd,by omega,by omega,hknm,(List.Perm.nodup_iff hperm).mpr hnnd,by omega,okT,okF⟩ (by omega) (by omega) (W.new hB _)
end
structure RowR where
 nm:Str
 ps:List Str
 rest:List Str
def tieRow (t:TieR):RowR:=⟨t.nm,t.ps,[]⟩
def funRow (t:FunR):RowR:=⟨t.nm,t.ps,[t.kd]⟩
def tieT (t:TieR):PyData:=.tuple [.str t.nm,.tuple (strsD t.ps)]
def funT (t:FunR):PyData:=.tuple [.str t.nm,.tuple (strsD t.ps),.str t.kd]
structure SgAt (H:Hp) (q:Addr×Addr) (r:RowR):Prop where
 row:LT H q.1 (.str r.nm::.ref q.2::r.rest.map V.str)
 plc:LT H q.2 (r.ps.map V.str)
inductive Sgs (H:Hp):List (Addr×Addr)→List RowR→Prop where
 | nil:Sgs H [] []
 | cons {q:Addr×Addr} {r:RowR} {ab:List (Addr×Addr)} {rs:List RowR}:SgAt H q r→Sgs H ab rs→Sgs H (q::ab) (r::rs)
theorem Sgs.length {H:Hp}:∀ {ab:List (Addr×Addr)} {rs:List RowR},Sgs H ab rs→ab.length=rs.length
 | _,_,.nil=>rfl
 | _,_,.cons _ t=>by rw [List.length_cons,List.length_cons,Sgs.length t]
theorem Sgs.get {H:Hp}:∀ {ab:List (Addr×Addr)} {rs:List RowR} {i:Nat} {q:Addr×Addr},Sgs H ab rs→ab[i]? = some q→∃ r,rs[i]? = some r∧SgAt H q r
 | _,_,_,_,.nil,h=>by simp at h
 | _,_,0,_,.cons a t,h=>by simp at h; subst h; exact⟨_,rfl,a⟩
 | _,_,i+1,_,.cons a t,h=>by simpa using Sgs.get (i:=i) t (by simpa using h)
theorem zds:LD "LETTERS":=by decide +kernel
theorem zdt:LD "LONGEST_NAME":=by decide +kernel
theorem zdu:LD "MOST_KINDS":=by decide +kernel
theorem zdv:LD "MOST_PLACES":=by decide +kernel
theorem zdw:LD "WORDS_OF_SAYINGS":=by decide +kernel
theorem zdx:LD "all":=by decide +kernel
theorem zdy:LM "all":=by decide +kernel
theorem zdz:LD "check_apart":=by decide +kernel
theorem zd0:LD "checked_kind":=by decide +kernel
theorem zd1:LD "checked_places":=by decide +kernel
theorem zd2:LD "checked_sign_name":=by decide +kernel
theorem zd3:LD "function":=by decide +kernel
theorem zd4:LS "function":=by decide +kernel
theorem zd5:LD "is_list":=by decide +kernel
theorem zd6:LD "is_name":=by decide +kernel
theorem zd7:LD "isinstance":=by decide +kernel
theorem zd8:LM "isinstance":=by decide +kernel
theorem zd9:LD "kind":=by decide +kernel
theorem zea:LS "kind":=by decide +kernel
theorem zeb:LD "kinds":=by decide +kernel
theorem zec:LS "kinds":=by decide +kernel
theorem zed:LD "name":=by decide +kernel
theorem zee:LS "name":=by decide +kernel
theorem zef:LD "names":=by decide +kernel
theorem zeg:LS "names":=by decide +kernel
theorem zeh:LD "places":=by decide +kernel
theorem zei:LS "places":=by decide +kernel
theorem zej:LD "set":=by decide +kernel
theorem zek:LM "set":=by decide +kernel
theorem zel:LD "sign":=by decide +kernel
theorem zem:LS "sign":=by decide +kernel
theorem zen:LD "str":=by decide +kernel
theorem zeo:LM "str":=by decide +kernel
theorem zep:LD "thing":=by decide +kernel
theorem zeq:LS "thing":=by decide +kernel
theorem zer:LD "tie":=by decide +kernel
theorem zes:LS "tie":=by decide +kernel
theorem zet:LD "tuple":=by decide +kernel
theorem zeu:LM "tuple":=by decide +kernel
section
variable {P:Program} {w:World} {K:PySem.W.Frag} {mg:Str→Option Value} {base:Heap}
abbrev s_is_list:Stmt:=top 14
theorem zev:FnScope ["thing"] ["thing"] (defScope s_is_list):=⟨rfl,rfl,rfl,by decide +kernel,rfl,by decide +kernel,by decide +kernel⟩
theorem zew:LN .globalImplicit s_is_list "isinstance":=by decide +kernel
theorem zex:LN .globalImplicit s_is_list "list":=by decide +kernel
theorem zey:LN .local s_is_list "thing":=by decide +kernel
theorem zez:LN .globalImplicit s_is_list "tuple":=by decide +kernel
def spIsList:Sp:=fun vs H Q _=>∃ (a:Addr) (xs:List V),vs=[.ref a]∧LT H a xs∧∀ H',Same H H'→Q (.bl true) H'
theorem ok_is_list (F:FunAt K mg "is_list" s_is_list ["thing"]) (Z:Bl mg):Def P w K mg base "is_list" 1 ["thing"] spIsList:=by
 have SC:=zev
 refine F.mk' (k:=0) zev (fun vs H Q E h=>?_) (fun f cdv A outer s H vs Q E hr h=>?_)
 ·obtain⟨a,xs,rfl,_⟩:=h
  rfl
 ·obtain⟨a,xs,rfl,hL,q⟩:=h
  refine'⟨_,?derivation,?_⟩
  case derivation=>refine' pss_one ?Aa;case Aa=>refine' ps_ret ?Ba;case Ba=>refine' pe_callB (hn:=zd8) (hdb:=zd7) (call_isi2 (T:="list") (U:="tuple")) zew Z.n_isinstance bt_isinstance ?Ca rfl rfl;case Ca=>refine' pa_cons (pq 0 (visL zey) zep zeq) ?Da ?Ea;(case Da=>refine' pa_cons ?Fa pa_nil ?Ga;(case Fa=>refine' pe_tup ?Ha;case Ha=>refine' pa_cons ?Ia ?Ja ?Ka;(case Ia=>refine' pe_bltn (v:=V.ty "list") (hn:=zby) (hd:=zbx) zex Z.n_list bt_list rfl);(case Ja=>refine' pa_cons ?La pa_nil ?Ma;(case La=>refine' pe_bltn (v:=V.ty "tuple") (hn:=zeu) (hd:=zet) zez Z.n_tuple bt_tuple rfl);case Ma=>rfl);case Ka=>rfl);case Ga=>rfl);case Ea=>rfl
  refine⟨_,rfl,by show 2≤sizeLine; decide,fun t ht=>?_⟩
  have st:=same_new ht (.tup [.ty "list",.ty "tuple"])
  obtain⟨ty,hty,hk⟩:=(hL.same st).isi2 (K:=K)
  exact⟨_,t,ty,true,rfl,upd_same,hty,hk,q _ st⟩
abbrev s_is_name:Stmt:=top 15
theorem ze0:FnScope ["thing"] ["thing"] (defScope s_is_name):=⟨rfl,rfl,rfl,by decide +kernel,rfl,by decide +kernel,by decide +kernel⟩
theorem ze1:LN .globalImplicit s_is_name "LONGEST_NAME":=by decide +kernel
theorem ze2:LN .globalImplicit s_is_name "all":=by decide +kernel
theorem ze3:LN .globalImplicit s_is_name "isinstance":=by decide +kernel
theorem ze4:LN .globalImplicit s_is_name "len":=by decide +kernel
theorem ze5:LN .globalImplicit s_is_name "str":=by decide +kernel
theorem ze6:LN .local s_is_name "thing":=by decide +kernel
abbrev QS2:Scope:={kind:=PySem.ScopeKind.function,names:=[ (PySem.Str.ofString ".0",PySem.NameKind.local),(PySem.Str.ofString "sign",PySem.NameKind.local),(PySem.Str.ofString "LETTERS",PySem.NameKind.globalImplicit)],isGenerator:=false,isCoroutine:=false,more:=[]:PySem.Scope}
theorem ze7:CompSc 1 ["sign","thing"] ["thing"] (defScope s_is_name) QS2:=⟨rfl,by decide +kernel,by decide +kernel,by decide +kernel,by decide +kernel,rfl,by decide +kernel⟩
theorem ze8:LC .globalImplicit QS2 "LETTERS":=by decide +kernel
theorem ze9:LC .local QS2 "sign":=by decide +kernel
def spIsName:Sp:=fun vs H Q _=>∃ z:Str,vs=[.str z]∧isNm z∧∀ H',Same H H'→Q (.bl true) H'
theorem ok_is_name (F:FunAt K mg "is_name" s_is_name ["thing"]) (Z:Bl mg) (G:Gs K mg):Def P w K mg base "is_name" 1 ["thing"] spIsName:=by
 have SC:=ze0
 obtain⟨_,g_LETTERS,r_LETTERS⟩:=G.letters
 obtain⟨_,g_LONGEST_NAME,r_LONGEST_NAME⟩:=G.longest
 refine F.mk' (k:=0) ze0 (fun vs H Q E h=>?_) (fun f cdv A outer s H vs Q E hr h=>?_)
 ·obtain⟨z,rfl,_⟩:=h
  rfl
 ·obtain⟨z,rfl,⟨h1,h2,h3⟩,q⟩:=h
  have hz:=str_len z
  have hcs:z.cps.size=z.cps.toList.length:=by simp
  refine'⟨_,?derivation,?_⟩
  case derivation=>refine' pss_cons ?Aa ?Ba;(case Aa=>refine' ps_if ?Ca ?Da pss_nil;(case Ca=>refine' PW.pt ?Ea;case Ea=>refine' pw_or ?Fa ?Ga;(case Fa=>refine' pt_not ?Ha;case Ha=>refine' pt_val ?Ia ?Ja;(case Ia=>refine' pe_callB (hn:=zd8) (hdb:=zd7) (call_isiT (T:="str")) ze3 Z.n_isinstance bt_isinstance ?Ka rfl rfl;case Ka=>refine' pa_cons (pq 0 (visL ze6) zep zeq) ?La ?Ma;(case La=>refine' pa_cons ?Na pa_nil ?Oa;(case Na=>refine' pe_bltn (v:=V.ty "str") (hn:=zeo) (hd:=zen) ze5 Z.n_str bt_str rfl);case Oa=>rfl);case Ma=>rfl);case Ja=>intro _; rfl);case Ga=>refine' pw_or1 ?Pa;case Pa=>refine' pt_not ?Qa;case Qa=>refine' pt_chain op_le op_le ?Ra ?Sa ?Ta ?Ua;(case Ra=>exact pe_int);(case Sa=>refine' pe_callB (hn:=zbw) (hdb:=zbv) call_len_str ze4 Z.n_len bt_len ?Va rfl rfl;case Va=>refine' pa_cons (pq 0 (visL ze6) zep zeq) pa_nil ?Wa;case Wa=>rfl);(case Ta=>refine' pe_glob (hd:=zdt) ze1 g_LONGEST_NAME r_LONGEST_NAME);case Ua=>with_unfolding_all rfl);case Da=>refine' pss_one ?Xa;case Xa=>refine' ps_ret ?Ya;case Ya=>exact pe_bl);case Ba=>refine' pss_one ?Za;case Za=>refine' ps_ret ?Ab;case Ab=>refine' pe_callB (hn:=zdy) (hdb:=zdx) (call_allB rfl) ze2 Z.n_all bt_all ?Bb rfl rfl;case Bb=>refine' pa_cons ?Cb pa_nil ?Db;(case Cb=>refine' pe_comp noxe rfl ze7.at ?Eb ?Fb ?Gb ?Hb;(case Eb=>refine' pi_str (pq 0 (visL ze6) zep zeq));(case Fb=>intro _ _ _ _ _;refine' pg_name (i:=0) ze7.nd rfl (locO ze9) (.inr (lookup_relabel_local ze9)));(case Gb=>intro _ _ _ _ _;refine' pe_cmpR op_in_str (pq 0 (visO ze9) zel zem) ?Ib (by with_unfolding_all rfl);case Ib=>refine' pe_glob (hd:=zds) (glO ze8) g_LETTERS r_LETTERS);case Hb=>intro _; rfl);case Db=>rfl
  refine⟨_,rfl,_,_,_,rfl,.str _,kit_str1 K,true,rfl,iteF ?_⟩
  refine⟨_,rfl,_,rfl,Nat.le_trans (show z.length≤12 by omega) (by decide),_,_,rfl,rfl,_,rfl,ifT (decide_eq_true (by omega)) ?_⟩
  refine⟨_,_,rfl,rfl,_,rfl,ifF (by simp; omega) ?_⟩
  refine⟨_,rfl,z,rfl,?_⟩
  intro cl C ex s0 H0
  refine comp_it1 z.cps.size (fun i ys H1=>ys=(List.replicate i true).map V.bl∧H1=H) (fun i x=>∃ c,z.cps[i]? = some c∧x=.str ⟨#[c]⟩) ⟨rfl,rfl⟩ (Nat.le_trans (show z.cps.size≤12 by omega) (by decide)) (fun i ys H1 hi _ _=>go_str hi) (fun ys H1 _ _=>stop_str) ?_ ?_
  ·rintro i x ys H1 hi ⟨c,hc,rfl⟩ hy ⟨rfl,rfl⟩
   have hm:c∈z.cps.toList:=by
    have : z.cps.toList[i]? = some c:=by simpa using hc
    exact List.mem_of_getElem? this
   obtain⟨c0,c1⟩:=h3 c hm
   refine⟨_,rfl,_,_,rfl,rfl,?_,rfl⟩
   rw [inAbc' c0 c1,List.replicate_succ',List.map_append]
   rfl
  ·rintro ys H1 hy ⟨rfl,rfl⟩ D hD
   refine⟨D,List.replicate z.cps.size true,rfl,SqL.of upd_same,?_⟩
   have e:(List.replicate z.cps.size true).all id=true:=by simp
   rw [e]
   exact q _ (same_new hD _)
abbrev s_check_apart:Stmt:=top 38
theorem zfa:FnScope ["names"] ["names"] (defScope s_check_apart):=⟨rfl,rfl,rfl,by decide +kernel,rfl,by decide +kernel,by decide +kernel⟩
theorem zfb:LN .globalImplicit s_check_apart "len":=by decide +kernel
theorem zfc:LN .local s_check_apart "names":=by decide +kernel
theorem zfd:LN .globalImplicit s_check_apart "set":=by decide +kernel
def spApart:Sp:=fun vs H Q _=>∃ (a:Addr) (ws:List Str),vs=[.ref a]∧LT H a (ws.map V.str)∧ws.Nodup∧ws.length≤1000∧∀ H',Same H H'→Q .non H'
theorem ok_apart (F:FunAt K mg "check_apart" s_check_apart ["names"]) (Z:Bl mg):Def P w K mg base "check_apart" 1 ["names"] spApart:=by
 have SC:=zfa
 refine F.mk' (k:=0) zfa (fun vs H Q E h=>?_) (fun f cdv A outer s H vs Q E hr h=>?_)
 ·obtain⟨a,ws,rfl,_⟩:=h
  rfl
 ·obtain⟨a,ws,rfl,hL,hnd,hl,q⟩:=h
  refine'⟨_,?derivation,?_⟩
  case derivation=>refine' pss_one ?Aa;case Aa=>refine' ps_if ?Ba ?Ca pss_nil;(case Ba=>refine' pt_cmpR op_ne ?Da ?Ea (nomark _);(case Da=>refine' pe_callB (hn:=zbw) (hdb:=zbv) call_lenT zfb Z.n_len bt_len ?Fa rfl rfl;case Fa=>refine' pa_cons ?Ga pa_nil ?Ha;(case Ga=>refine' pe_callTy (hn:=zek) (hdb:=zej) (call_setT rfl) zfd Z.n_set bt_set ?Ia rfl rfl;case Ia=>refine' pa_cons (pq 0 (visL zfc) zef zeg) pa_nil ?Ja;case Ja=>rfl);case Ha=>rfl);case Ea=>refine' pe_callB (hn:=zbw) (hdb:=zbv) call_len_seq zfb Z.n_len bt_len ?Ka rfl rfl;case Ka=>refine' pa_cons (pq 0 (visL zfc) zef zeg) pa_nil ?La;case La=>rfl);case Ca=>refine' pss_one ps_never
  refine⟨_,rfl,a,ws,rfl,hL.sq,Nat.lt_of_le_of_lt (show ws.length+1≤1001 by omega) (by decide),fun d hd=>?_⟩
  have st:=same_new hd (SetT P w d ws)
  refine⟨d,ws,rfl,upd_same,?_⟩
  refine⟨_,rfl,a,_,rfl,(hL.same st).sq,rfl,_,rfl,?_⟩
  have e:(ws.foldl stepS []).length=ws.length:=by rw [foldS_nodup ws [] hnd (fun _ _ z=>nomatch z)]; simp
  refine ifF ?_ (q _ st)
  rw [e,List.length_map]
  simp
abbrev s_checked_kinds:Stmt:=top 32
theorem zfe:FnScope ["kinds","kind"] ["kinds"] (defScope s_checked_kinds):=⟨rfl,rfl,rfl,by decide +kernel,rfl,by decide +kernel,by decide +kernel⟩
theorem zff:LN .globalImplicit s_checked_kinds "MOST_KINDS":=by decide +kernel
theorem zfg:LN .globalImplicit s_checked_kinds "check_apart":=by decide +kernel
theorem zfh:LN .globalImplicit s_checked_kinds "is_list":=by decide +kernel
theorem zfi:LN .globalImplicit s_checked_kinds "is_name":=by decide +kernel
theorem zfj:LN .local s_checked_kinds "kind":=by decide +kernel
theorem zfk:LN .local s_checked_kinds "kinds":=by decide +kernel
theorem zfl:LN .globalImplicit s_checked_kinds "len":=by decide +kernel
theorem zfm:LN .globalImplicit s_checked_kinds "tuple":=by decide +kernel
structure KindsOk (ks:List Str):Prop where
 kn:ks.Nodup
 k1:1≤ks.length
 k4:ks.length≤4
 kn2:∀ k∈ks,isNm k
def spKinds:Sp:=fun vs H Q _=>∃ (a:Addr) (ks:List Str),vs=[.ref a]∧LT H a (ks.map V.str)∧KindsOk ks∧∀ t H',H' t=some (.tup (ks.map V.str))→Same H H'→Q (.ref t) H'
theorem ok_kinds (F:FunAt K mg "checked_kinds" s_checked_kinds ["kinds"]) (Z:Bl mg) (G:Gs K mg) (D_is_list:Def P w K mg base "is_list" 1 ["thing"] spIsList) (D_is_name:Def P w K mg base "is_name" 1 ["thing"] spIsName) (D_check_apart:Def P w K mg base "check_apart" 1 ["names"] spApart) :
  Def P w K mg base "checked_kinds" 2 ["kinds"] spKinds:=by
 have SC:=zfe
 obtain⟨_,g_MOST_KINDS,r_MOST_KINDS⟩:=G.mkinds
 refine F.mk' (k:=1) zfe (fun vs H Q E h=>?_) (fun f cdv A outer s H vs Q E hr h=>?_)
 ·obtain⟨a,ks,rfl,_⟩:=h
  rfl
 ·obtain⟨a,ks,rfl,hL,ok,q⟩:=h
  have k1:=ok.k1
  have k4:=ok.k4
  refine'⟨_,?derivation,?_⟩
  case derivation=>refine' pss_cons ?Aa ?Ba;(case Aa=>refine' ps_if ?Ca ?Da pss_nil;(case Ca=>refine' PW.pt ?Ea;case Ea=>refine' pw_or ?Fa ?Ga;(case Fa=>refine' pt_not ?Ha;case Ha=>refine' pt_val ?Ia ?Ja;(case Ia=>refine' pe_def (hdb:=zd5) D_is_list (hr.mono (by decide)) zfh ?Ka rfl rfl;case Ka=>refine' pa_cons (pq 0 (visL zfk) zeb zec) pa_nil ?La;case La=>rfl);case Ja=>intro _; rfl);case Ga=>refine' pw_or1 ?Ma;case Ma=>refine' pt_not ?Na;case Na=>refine' pt_chain op_le op_le ?Oa ?Pa ?Qa ?Ra;(case Oa=>exact pe_int);(case Pa=>refine' pe_callB (hn:=zbw) (hdb:=zbv) call_len_seq zfl Z.n_len bt_len ?Sa rfl rfl;case Sa=>refine' pa_cons (pq 0 (visL zfk) zeb zec) pa_nil ?Ta;case Ta=>rfl);(case Qa=>refine' pe_glob (hd:=zdu) zff g_MOST_KINDS r_MOST_KINDS);case Ra=>with_unfolding_all rfl);case Da=>refine' pss_one ps_never);case Ba=>refine' pss_cons ?Ua ?Va;(case Ua=>refine' ps_for PassesOwn.never rfl ?Wa ?Xa ?Ya ?Za;(case Wa=>refine' pi_seq (pq 0 (visL zfk) zeb zec));(case Xa=>refine' pg_name (i:=1) (x:=Str.ofString "kind") SC.nd rfl (Or.inl zfj) (.inl rfl));(case Ya=>refine' pss_one ?Ab;case Ab=>refine' ps_if ?Bb ?Cb pss_nil;(case Bb=>refine' pt_not ?Db;case Db=>refine' pt_val ?Eb ?Fb;(case Eb=>refine' pe_def (hdb:=zd6) D_is_name (hr.mono (by decide)) zfi ?Gb rfl rfl;case Gb=>refine' pa_cons (pq 1 (visL zfj) zd9 zea) pa_nil ?Hb;case Hb=>rfl);case Fb=>intro _; rfl);case Cb=>refine' pss_one ps_never);case Za=>intro _; rfl);case Va=>refine' pss_cons ?Ib ?Jb;(case Ib=>refine' ps_expr ?Kb rfl;case Kb=>refine' pe_def (hdb:=zdz) D_check_apart (hr.mono (by decide)) zfg ?Lb rfl rfl;case Lb=>refine' pa_cons (pq 0 (visL zfk) zeb zec) pa_nil ?Mb;case Mb=>rfl);case Jb=>refine' pss_one ?Nb;case Nb=>refine' ps_ret ?Ob;case Ob=>refine' pe_callTy (hn:=zeu) (hdb:=zet) ?Pb zfm Z.n_tuple bt_tuple ?Qb rfl rfl;(case Pb=>exact call_tuple_of);case Qb=>refine' pa_cons (pq 0 (visL zfk) zeb zec) pa_nil ?Rb;case Rb=>rfl
  refine⟨_,rfl,a,_,rfl,hL,fun H1 s1=>⟨true,rfl,iteF ?_⟩⟩
  refine⟨_,rfl,a,_,rfl,(hL.same s1).sq,_,_,rfl,rfl,_,rfl,ifT (decide_eq_true (by rw [List.length_map]; omega)) ?_⟩
  refine⟨_,_,rfl,rfl,_,rfl,ifF (by rw [List.length_map]; simp; omega) ?_⟩
  refine(hL.same s1).over rfl fun J O=>O.loop (fun j σ H2=>∃ v,σ=[some (.ref a),v]∧Same H1 H2) ⟨_,rfl,Same.refl _⟩ (fun j σ H2 _ ⟨_,_,z⟩ o e=>z a o e) ?_ ?_
  ·rintro i x σ H2 hi ⟨v,rfl,s2⟩
   rw [List.getElem?_map] at hi
   obtain⟨k,hk,rfl⟩:=Option.map_eq_some_iff.mp hi
   refine⟨_,rfl,k,rfl,ok.kn2 k (List.mem_of_getElem? hk),fun H3 s3=>⟨true,rfl,iteF ?_⟩⟩
   exact⟨_,rfl,s2.trans s3⟩
  ·rintro σ H2 ⟨v,rfl,s2⟩
   refine⟨_,rfl,a,ks,rfl,(hL.same s1).same s2,ok.kn,by omega,fun H3 s3=>?_⟩
   have s03:=(s1.trans s2).trans s3
   refine⟨_,rfl,a,ks.map V.str,rfl,?_⟩
   rcases hL.same s03 with e | e
   ·exact .inl ⟨SqL.of e,fun l hl=>q l _ upd_same (s03.trans (same_new hl _))⟩
   ·exact .inr ⟨SqT.of e,q a _ e s03⟩
abbrev s_checked_kind:Stmt:=top 37
theorem zfn:FnScope ["kinds","kind"] ["kinds","kind"] (defScope s_checked_kind):=⟨rfl,rfl,rfl,by decide +kernel,rfl,by decide +kernel,by decide +kernel⟩
theorem zfo:LN .globalImplicit s_checked_kind "is_name":=by decide +kernel
theorem zfp:LN .local s_checked_kind "kind":=by decide +kernel
theorem zfq:LN .local s_checked_kind "kinds":=by decide +kernel
def spKind:Sp:=fun vs H Q _=>∃ (a:Addr) (ks:List Str) (k:Str),vs=[.ref a,.str k]∧LT H a (ks.map V.str)∧isNm k∧k∈ks∧∀ H',Same H H'→Q (.str k) H'
theorem ok_kind (F:FunAt K mg "checked_kind" s_checked_kind ["kinds","kind"]) (Z:Bl mg) (D_is_name:Def P w K mg base "is_name" 1 ["thing"] spIsName):Def P w K mg base "checked_kind" 2 ["kinds","kind"] spKind:=by
 have SC:=zfn
 refine F.mk' (k:=1) zfn (fun vs H Q E h=>?_) (fun f cdv A outer s H vs Q E hr h=>?_)
 ·obtain⟨a,ks,k,rfl,_⟩:=h
  rfl
 ·obtain⟨a,ks,k,rfl,hL,hn,hk,q⟩:=h
  refine'⟨_,?derivation,?_⟩
  case derivation=>refine' pss_cons ?Aa ?Ba;(case Aa=>refine' ps_if ?Ca ?Da pss_nil;(case Ca=>refine' PW.pt ?Ea;case Ea=>refine' pw_or ?Fa ?Ga;(case Fa=>refine' pt_not ?Ha;case Ha=>refine' pt_val ?Ia ?Ja;(case Ia=>refine' pe_def (hdb:=zd6) D_is_name (hr.mono (by decide)) zfo ?Ka rfl rfl;case Ka=>refine' pa_cons (pq 1 (visL zfp) zd9 zea) pa_nil ?La;case La=>rfl);case Ja=>intro _; rfl);case Ga=>refine' pw_or1 ?Ma;case Ma=>refine' pt_cmpR op_notIn_seq (pq 1 (visL zfp) zd9 zea) (pq 0 (visL zfq) zeb zec) (by with_unfolding_all rfl));case Da=>refine' pss_one ps_never);case Ba=>refine' pss_one ?Na;case Na=>refine' ps_ret (pq 1 (visL zfp) zd9 zea)
  refine⟨_,rfl,k,rfl,hn,fun H1 s1=>⟨true,rfl,iteF ?_⟩⟩
  refine⟨_,rfl,_,rfl,a,_,rfl,(hL.same s1).sq,rfl,flat_strs ks,_,rfl,ifF ?_ ⟨_,rfl,q _ s1⟩⟩
  rw [inV_strs,decide_eq_true hk]
  decide
abbrev s_checked_places:Stmt:=top 36
theorem zfr:FnScope ["kinds","places"] ["kinds","places"] (defScope s_checked_places):=⟨rfl,rfl,rfl,by decide +kernel,rfl,by decide +kernel,by decide +kernel⟩
theorem zfs:LN .globalImplicit s_checked_places "MOST_PLACES":=by decide +kernel
theorem zft:LN .globalImplicit s_checked_places "is_list":=by decide +kernel
theorem zfu:LN .globalImplicit s_checked_places "len":=by decide +kernel
theorem zfv:LN .local s_checked_places "places":=by decide +kernel
theorem zfw:LN .globalImplicit s_checked_places "tuple":=by decide +kernel
abbrev QS3:Scope:={kind:=PySem.ScopeKind.function,names:=[ (PySem.Str.ofString ".0",PySem.NameKind.local),(PySem.Str.ofString "kind",PySem.NameKind.local),(PySem.Str.ofString "checked_kind",PySem.NameKind.globalImplicit),(PySem.Str.ofString "kinds",PySem.NameKind.free)],isGenerator:=false,isCoroutine:=false,more:=[]:PySem.Scope}
theorem zfx:CompSc 1 ["kind","kinds","places"] ["kinds","places"] (defScope s_checked_places) QS3:=⟨rfl,by decide +kernel,by decide +kernel,by decide +kernel,by decide +kernel,rfl,by decide +kernel⟩
theorem zfy:LC .globalImplicit QS3 "checked_kind":=by decide +kernel
theorem zfz:LC .local QS3 "kind":=by decide +kernel
theorem zf0:LC .free QS3 "kinds":=by decide +kernel
def spPlaces:Sp:=fun vs H Q _=>∃ (a b:Addr) (ks ps:List Str),vs=[.ref a,.ref b]∧LT H a (ks.map V.str)∧(∀ k∈ks,isNm k)∧LT H b (ps.map V.str)∧ps.length≤2∧(∀ k∈ps,k∈ks)∧∀ t H',H' t=some (.tup (ps.map V.str))→Same H H'→Q (.ref t) H'
theorem ok_places (F:FunAt K mg "checked_places" s_checked_places ["kinds","places"]) (Z:Bl mg) (G:Gs K mg) (D_is_list:Def P w K mg base "is_list" 1 ["thing"] spIsList) (D_checked_kind:Def P w K mg base "checked_kind" 2 ["kinds","kind"] spKind):Def P w K mg base "checked_places" 3 ["kinds","places"] spPlaces:=by
 have SC:=zfr
 obtain⟨_,g_MOST_PLACES,r_MOST_PLACES⟩:=G.mplaces
 refine F.mk' (k:=2) zfr (fun vs H Q E h=>?_) (fun f cdv A outer s H vs Q E hr h=>?_)
 ·obtain⟨a,b,ks,ps,rfl,_⟩:=h
  rfl
 ·obtain⟨a,b,ks,ps,rfl,hA,hnm,hB,h2,hin,q⟩:=h
  refine'⟨_,?derivation,?_⟩
  case derivation=>refine' pss_cons ?Aa ?Ba;(case Aa=>refine' ps_if ?Ca ?Da pss_nil;(case Ca=>refine' PW.pt ?Ea;case Ea=>refine' pw_or ?Fa ?Ga;(case Fa=>refine' pt_not ?Ha;case Ha=>refine' pt_val ?Ia ?Ja;(case Ia=>refine' pe_def (hdb:=zd5) D_is_list (hr.mono (by decide)) zft ?Ka rfl rfl;case Ka=>refine' pa_cons (pq 1 (visL zfv) zeh zei) pa_nil ?La;case La=>rfl);case Ja=>intro _; rfl);case Ga=>refine' pw_or1 ?Ma;case Ma=>refine' pt_cmpR op_gt ?Na ?Oa (nomark _);(case Na=>refine' pe_callB (hn:=zbw) (hdb:=zbv) call_len_seq zfu Z.n_len bt_len ?Pa rfl rfl;case Pa=>refine' pa_cons (pq 1 (visL zfv) zeh zei) pa_nil ?Qa;case Qa=>rfl);case Oa=>refine' pe_glob (hd:=zdv) zfs g_MOST_PLACES r_MOST_PLACES);case Da=>refine' pss_one ps_never);case Ba=>refine' pss_one ?Ra;case Ra=>refine' ps_ret ?Sa;case Sa=>refine' pe_callTy (hn:=zeu) (hdb:=zet) ?Ta zfw Z.n_tuple bt_tuple ?Ua rfl rfl;(case Ta=>exact call_tuple_of);case Ua=>refine' pa_cons ?Va pa_nil ?Wa;(case Va=>refine' pe_comp noxe rfl zfx.at ?Xa ?Ya ?Za ?Ab;(case Xa=>refine' pi_seq (pq 1 (visL zfv) zeh zei));(case Ya=>intro _ _ _ _ _;refine' pg_name (i:=0) zfx.nd rfl (locO zfz) (.inr (lookup_relabel_local zfz)));(case Za=>intro _ _ _ _ _;refine' pe_def (hdb:=zd0) D_checked_kind (hr.mono (by decide)) (glO zfy) ?Bb rfl rfl;case Bb=>refine' pa_cons (pq 1 (visF zf0) zeb zec) ?Cb ?Db;(case Cb=>refine' pa_cons (pq 0 (visO zfz) zd9 zea) pa_nil ?Eb;case Eb=>rfl);case Db=>rfl);case Ab=>intro _; rfl);case Wa=>rfl
  refine⟨_,rfl,b,_,rfl,hB,fun H1 s1=>⟨true,rfl,iteF ?_⟩⟩
  refine⟨_,rfl,b,_,rfl,(hB.same s1).sq,_,_,rfl,rfl,_,rfl,ifF (by rw [List.length_map]; simp; omega) ?_⟩
  refine(hB.same s1).over rfl fun J O=>?_
  intro cl C ex s0 H0
  refine O.comp (fun i ys H2=>ys=(ps.take i).map V.str∧Same H1 H2) ⟨rfl,Same.refl _⟩ (by rw [List.length_map]; exact Nat.le_trans h2 (by decide)) (fun i ys H2 _ ⟨_,z⟩ o e=>z b o e) ?_ ?_
  ·rintro i x ys H2 hi hy ⟨rfl,s2⟩
   rw [List.getElem?_map] at hi
   obtain⟨k,hk,rfl⟩:=Option.map_eq_some_iff.mp hi
   have hkp:=hin k (List.mem_of_getElem? hk)
   refine⟨_,rfl,_,rfl,a,ks,k,rfl,(hA.same s1).same s2,hnm k hkp,hkp,fun H3 s3=>⟨?_,s2.trans s3⟩⟩
   rw [List.take_succ,hk,List.map_append]; rfl
  ·rintro ys H2 hy ⟨rfl,s2⟩ D hD
   rw [List.length_map,List.take_length]
   refine⟨D,_,rfl,.inl ⟨SqL.of upd_same,fun t ht=>?_⟩⟩
   exact q t _ upd_same ((s1.trans s2).trans ((same_new hD _).trans (same_new ht _)))
abbrev s_checked_sign_name:Stmt:=top 35
theorem zf1:FnScope ["name"] ["name"] (defScope s_checked_sign_name):=⟨rfl,rfl,rfl,by decide +kernel,rfl,by decide +kernel,by decide +kernel⟩
theorem zf2:LN .globalImplicit s_checked_sign_name "WORDS_OF_SAYINGS":=by decide +kernel
theorem zf3:LN .globalImplicit s_checked_sign_name "is_name":=by decide +kernel
theorem zf4:LN .local s_checked_sign_name "name":=by decide +kernel
def spSignName:Sp:=fun vs H Q _=>∃ (k:Str),vs=[.str k]∧isSg k∧∀ H',Same H H'→Q (.str k) H'
theorem ok_sign_name (F:FunAt K mg "checked_sign_name" s_checked_sign_name ["name"]) (Z:Bl mg) (G:Gs K mg) (D_is_name:Def P w K mg base "is_name" 1 ["thing"] spIsName):Def P w K mg base "checked_sign_name" 2 ["name"] spSignName:=by
 have SC:=zf1
 obtain⟨wa,g_WORDS_OF_SAYINGS,hW⟩:=G.words
 have r_WORDS_OF_SAYINGS:RelV (.ref wa) (.ref wa):=rfl
 refine F.mk' (k:=1) zf1 (fun vs H Q E h=>?_) (fun f cdv A outer s H vs Q E hr h=>?_)
 ·obtain⟨k,rfl,_⟩:=h
  rfl
 ·obtain⟨k,rfl,hs,q⟩:=h
  refine'⟨_,?derivation,?_⟩
  case derivation=>refine' pss_cons ?Aa ?Ba;(case Aa=>refine' ps_if ?Ca ?Da pss_nil;(case Ca=>refine' PW.pt ?Ea;case Ea=>refine' pw_or ?Fa ?Ga;(case Fa=>refine' pt_not ?Ha;case Ha=>refine' pt_val ?Ia ?Ja;(case Ia=>refine' pe_def (hdb:=zd6) D_is_name (hr.mono (by decide)) zf3 ?Ka rfl rfl;case Ka=>refine' pa_cons (pq 0 (visL zf4) zed zee) pa_nil ?La;case La=>rfl);case Ja=>intro _; rfl);case Ga=>refine' pw_or1 ?Ma;case Ma=>refine' pt_cmpR op_in_seq (pq 0 (visL zf4) zed zee) ?Na (by with_unfolding_all rfl);case Na=>refine' pe_glob (hd:=zdw) zf2 g_WORDS_OF_SAYINGS r_WORDS_OF_SAYINGS);case Da=>refine' pss_one ps_never);case Ba=>refine' pss_one ?Oa;case Oa=>refine' ps_ret (pq 0 (visL zf4) zed zee)
  refine⟨_,rfl,k,rfl,hs.1,fun H1 s1=>⟨true,rfl,iteF ?_⟩⟩
  refine⟨_,rfl,wa,_,rfl,.inr (hW _),rfl,flat_strs sayWords,_,rfl,ifF ?_ ⟨_,rfl,q _ s1⟩⟩
  rw [inV_strs,decide_eq_false hs.2]
  decide
abbrev s_checked_tie:Stmt:=top 33
theorem zf5:FnScope ["kinds","tie","name","places"] ["kinds","tie"] (defScope s_checked_tie):=⟨rfl,rfl,rfl,by decide +kernel,rfl,by decide +kernel,by decide +kernel⟩
theorem zf6:LN .globalImplicit s_checked_tie "checked_places":=by decide +kernel
theorem zf7:LN .globalImplicit s_checked_tie "checked_sign_name":=by decide +kernel
theorem zf8:LN .globalImplicit s_checked_tie "is_list":=by decide +kernel
theorem zf9:LN .local s_checked_tie "kinds":=by decide +kernel
theorem zga:LN .globalImplicit s_checked_tie "len":=by decide +kernel
theorem zgb:LN .local s_checked_tie "name":=by decide +kernel
theorem zgc:LN .local s_checked_tie "places":=by decide +kernel
theorem zgd:LN .local s_checked_tie "tie":=by decide +kernel
def SgOk (ks:List Str) (nm:Str) (ps:List Str):Prop:=isSg nm∧ps.length≤2∧∀ k∈ps,k∈ks
def spTie:Sp:=fun vs H Q _=>∃ (a b c:Addr) (ks ps:List Str) (nm:Str),vs=[.ref a,.ref b]∧LT H a (ks.map V.str)∧(∀ k∈ks,isNm k)∧LT H b [.str nm,.ref c]∧LT H c (ps.map V.str)∧SgOk ks nm ps∧
 ∀ t u H',H' t=some (.tup [.str nm,.ref u])→H' u=some (.tup (ps.map V.str))→Same H H'→Q (.ref t) H'
theorem ok_tie (F:FunAt K mg "checked_tie" s_checked_tie ["kinds","tie"]) (Z:Bl mg) (D_is_list:Def P w K mg base "is_list" 1 ["thing"] spIsList) (D_checked_sign_name:Def P w K mg base "checked_sign_name" 2 ["name"] spSignName) (D_checked_places:Def P w K mg base "checked_places" 3 ["kinds","places"] spPlaces) :
  Def P w K mg base "checked_tie" 4 ["kinds","tie"] spTie:=by
 have SC:=zf5
 refine F.mk' (k:=3) zf5 (fun vs H Q E h=>?_) (fun f cdv A outer s H vs Q E hr h=>?_)
 ·obtain⟨a,b,c,ks,ps,nm,rfl,_⟩:=h
  rfl
 ·obtain⟨a,b,c,ks,ps,nm,rfl,hA,hnm,hB,hC,⟨hs,h2,hin⟩,q⟩:=h
  refine'⟨_,?derivation,?_⟩
  case derivation=>refine' pss_cons ?Aa ?Ba;(case Aa=>refine' ps_if ?Ca ?Da pss_nil;(case Ca=>refine' PW.pt ?Ea;case Ea=>refine' pw_or ?Fa ?Ga;(case Fa=>refine' pt_not ?Ha;case Ha=>refine' pt_val ?Ia ?Ja;(case Ia=>refine' pe_def (hdb:=zd5) D_is_list (hr.mono (by decide)) zf8 ?Ka rfl rfl;case Ka=>refine' pa_cons (pq 1 (visL zgd) zer zes) pa_nil ?La;case La=>rfl);case Ja=>intro _; rfl);case Ga=>refine' pw_or1 ?Ma;case Ma=>refine' pt_cmpR op_ne ?Na ?Oa (nomark _);(case Na=>refine' pe_callB (hn:=zbw) (hdb:=zbv) call_len_seq zga Z.n_len bt_len ?Pa rfl rfl;case Pa=>refine' pa_cons (pq 1 (visL zgd) zer zes) pa_nil ?Qa;case Qa=>rfl);case Oa=>exact pe_int);case Da=>refine' pss_one ps_never);case Ba=>refine' pss_cons ?Ra ?Sa;(case Ra=>refine' ps_asg ?Ta ?Ua ?Va ?Wa ?Xa;(case Ta=>exact(pq 1 (visL zgd) zer zes));(case Ua=>refine' pg_seq rfl ?Ya rfl rfl;case Ya=>refine' pgs_cons ?Za ?Ab ?Bb;(case Za=>refine' pg_name (i:=2) (x:=Str.ofString "name") SC.nd rfl (Or.inl zgb) (.inl rfl));(case Ab=>refine' pgs_cons ?Cb pgs_nil ?Db;(case Cb=>refine' pg_name (i:=3) (x:=Str.ofString "places") SC.nd rfl (Or.inl zgc) (.inl rfl));case Db=>rfl);case Bb=>rfl);(case Va=>rfl);(case Wa=>rfl);case Xa=>rfl);case Sa=>refine' pss_one ?Eb;case Eb=>refine' ps_ret ?Fb;case Fb=>refine' pe_tup ?Gb;case Gb=>refine' pa_cons ?Hb ?Ib ?Jb;(case Hb=>refine' pe_def (hdb:=zd2) D_checked_sign_name (hr.mono (by decide)) zf7 ?Kb rfl rfl;case Kb=>refine' pa_cons (pq 2 (visL zgb) zed zee) pa_nil ?Lb;case Lb=>rfl);(case Ib=>refine' pa_cons ?Mb pa_nil ?Nb;(case Mb=>refine' pe_def (hdb:=zd1) D_checked_places (hr.mono (by decide)) zf6 ?Ob rfl rfl;case Ob=>refine' pa_cons (pq 0 (visL zf9) zeb zec) ?Pb ?Qb;(case Pb=>refine' pa_cons (pq 3 (visL zgc) zeh zei) pa_nil ?Rb;case Rb=>rfl);case Qb=>rfl);case Nb=>rfl);case Jb=>rfl
  refine⟨_,rfl,b,_,rfl,hB,fun H1 s1=>⟨true,rfl,iteF ?_⟩⟩
  refine⟨_,rfl,b,_,rfl,(hB.same s1).sq,rfl,_,rfl,ifF (by simp) ?_⟩
  refine⟨_,rfl,b,_,rfl,(hB.same s1).sq,rfl,_,_,rfl,_,_,rfl,rfl,?_⟩
  refine⟨_,rfl,nm,rfl,hs,fun H2 s2=>?_⟩
  have s02:=s1.trans s2
  refine⟨_,rfl,_,rfl,a,c,ks,ps,rfl,hA.same s02,hnm,hC.same s02,h2,hin,fun u H3 hu s3=>?_⟩
  refine⟨by show 2≤sizeLine; decide,fun t ht=>?_⟩
  exact q t u _ upd_same (same_new ht _ _ _ hu) ((s02.trans s3).trans (same_new ht _))
abbrev s_checked_function:Stmt:=top 34
theorem zge:FnScope ["kinds","function","name","places","kind"] ["kinds","function"] (defScope s_checked_function):=⟨rfl,rfl,rfl,by decide +kernel,rfl,by decide +kernel,by decide +kernel⟩
theorem zgf:LN .globalImplicit s_checked_function "checked_kind":=by decide +kernel
theorem zgg:LN .globalImplicit s_checked_function "checked_places":=by decide +kernel
theorem zgh:LN .globalImplicit s_checked_function "checked_sign_name":=by decide +kernel
theorem zgi:LN .local s_checked_function "function":=by decide +kernel
theorem zgj:LN .globalImplicit s_checked_function "is_list":=by decide +kernel
theorem zgk:LN .local s_checked_function "kind":=by decide +kernel
theorem zgl:LN .local s_checked_function "kinds":=by decide +kernel
theorem zgm:LN .globalImplicit s_checked_function "len":=by decide +kernel
theorem zgn:LN .local s_checked_function "name":=by decide +kernel
theorem zgo:LN .local s_checked_function "places":=by decide +kernel
def spFunc:Sp:=fun vs H Q _=>∃ (a b c:Addr) (ks ps:List Str) (nm kd:Str),vs=[.ref a,.ref b]∧LT H a (ks.map V.str)∧(∀ k∈ks,isNm k)∧LT H b [.str nm,.ref c,.str kd]∧LT H c (ps.map V.str)∧SgOk ks nm ps∧kd∈ks∧
 ∀ t u H',H' t=some (.tup [.str nm,.ref u,.str kd])→H' u=some (.tup (ps.map V.str))→Same H H'→Q (.ref t) H'
theorem ok_func (F:FunAt K mg "checked_function" s_checked_function ["kinds","function"]) (Z:Bl mg) (D_is_list:Def P w K mg base "is_list" 1 ["thing"] spIsList) (D_checked_sign_name:Def P w K mg base "checked_sign_name" 2 ["name"] spSignName) (D_checked_places:Def P w K mg base "checked_places" 3 ["kinds","places"] spPlaces)
  (D_checked_kind:Def P w K mg base "checked_kind" 2 ["kinds","kind"] spKind):Def P w K mg base "checked_function" 4 ["kinds","function"] spFunc:=by
 have SC:=zge
 refine F.mk' (k:=3) zge (fun vs H Q E h=>?_) (fun f cdv A outer s H vs Q E hr h=>?_)
 ·obtain⟨a,b,c,ks,ps,nm,kd,rfl,_⟩:=h
  rfl
 ·obtain⟨a,b,c,ks,ps,nm,kd,rfl,hA,hnm,hB,hC,⟨hs,h2,hin⟩,hkd,q⟩:=h
  refine'⟨_,?derivation,?_⟩
  case derivation=>refine' pss_cons ?Aa ?Ba;(case Aa=>refine' ps_if ?Ca ?Da pss_nil;(case Ca=>refine' PW.pt ?Ea;case Ea=>refine' pw_or ?Fa ?Ga;(case Fa=>refine' pt_not ?Ha;case Ha=>refine' pt_val ?Ia ?Ja;(case Ia=>refine' pe_def (hdb:=zd5) D_is_list (hr.mono (by decide)) zgj ?Ka rfl rfl;case Ka=>refine' pa_cons (pq 1 (visL zgi) zd3 zd4) pa_nil ?La;case La=>rfl);case Ja=>intro _; rfl);case Ga=>refine' pw_or1 ?Ma;case Ma=>refine' pt_cmpR op_ne ?Na ?Oa (nomark _);(case Na=>refine' pe_callB (hn:=zbw) (hdb:=zbv) call_len_seq zgm Z.n_len bt_len ?Pa rfl rfl;case Pa=>refine' pa_cons (pq 1 (visL zgi) zd3 zd4) pa_nil ?Qa;case Qa=>rfl);case Oa=>exact pe_int);case Da=>refine' pss_one ps_never);case Ba=>refine' pss_cons ?Ra ?Sa;(case Ra=>refine' ps_asg ?Ta ?Ua ?Va ?Wa ?Xa;(case Ta=>exact(pq 1 (visL zgi) zd3 zd4));(case Ua=>refine' pg_seq rfl ?Ya rfl rfl;case Ya=>refine' pgs_cons ?Za ?Ab ?Bb;(case Za=>refine' pg_name (i:=2) (x:=Str.ofString "name") SC.nd rfl (Or.inl zgn) (.inl rfl));(case Ab=>refine' pgs_cons ?Cb ?Db ?Eb;(case Cb=>refine' pg_name (i:=3) (x:=Str.ofString "places") SC.nd rfl (Or.inl zgo) (.inl rfl));(case Db=>refine' pgs_cons ?Fb pgs_nil ?Gb;(case Fb=>refine' pg_name (i:=4) (x:=Str.ofString "kind") SC.nd rfl (Or.inl zgk) (.inl rfl));case Gb=>rfl);case Eb=>rfl);case Bb=>rfl);(case Va=>rfl);(case Wa=>rfl);case Xa=>rfl);case Sa=>refine' pss_one ?Hb;case Hb=>refine' ps_ret ?Ib;case Ib=>refine' pe_tup ?Jb;case Jb=>refine' pa_cons ?Kb ?Lb ?Mb;(case Kb=>refine' pe_def (hdb:=zd2) D_checked_sign_name (hr.mono (by decide)) zgh ?Nb rfl rfl;case Nb=>refine' pa_cons (pq 2 (visL zgn) zed zee) pa_nil ?Ob;case Ob=>rfl);(case Lb=>refine' pa_cons ?Pb ?Qb ?Rb;(case Pb=>refine' pe_def (hdb:=zd1) D_checked_places (hr.mono (by decide)) zgg ?Sb rfl rfl;case Sb=>refine' pa_cons (pq 0 (visL zgl) zeb zec) ?Tb ?Ub;(case Tb=>refine' pa_cons (pq 3 (visL zgo) zeh zei) pa_nil ?Vb;case Vb=>rfl);case Ub=>rfl);(case Qb=>refine' pa_cons ?Wb pa_nil ?Xb;(case Wb=>refine' pe_def (hdb:=zd0) D_checked_kind (hr.mono (by decide)) zgf ?Yb rfl rfl;case Yb=>refine' pa_cons (pq 0 (visL zgl) zeb zec) ?Zb ?Ac;(case Zb=>refine' pa_cons (pq 4 (visL zgk) zd9 zea) pa_nil ?Bc;case Bc=>rfl);case Ac=>rfl);case Xb=>rfl);case Rb=>rfl);case Mb=>rfl
  refine⟨_,rfl,b,_,rfl,hB,fun H1 s1=>⟨true,rfl,iteF ?_⟩⟩
  refine⟨_,rfl,b,_,rfl,(hB.same s1).sq,rfl,_,rfl,ifF (by simp) ?_⟩
  refine⟨_,rfl,b,_,rfl,(hB.same s1).sq,rfl,_,_,rfl,_,_,rfl,_,_,rfl,rfl,?_⟩
  refine⟨_,rfl,nm,rfl,hs,fun H2 s2=>?_⟩
  have s02:=s1.trans s2
  refine⟨_,rfl,_,rfl,a,c,ks,ps,rfl,hA.same s02,hnm,hC.same s02,h2,hin,fun u H3 hu s3=>?_⟩
  have s03:=s02.trans s3
  refine⟨_,rfl,_,rfl,a,ks,kd,rfl,hA.same s03,hnm kd hkd,hkd,fun H4 s4=>?_⟩
  refine⟨by show 3≤sizeLine; decide,fun t ht=>?_⟩
  exact q t u _ upd_same (same_new ht _ _ _ (s4 _ _ hu)) ((s03.trans s4).trans (same_new ht _))
end
theorem zgp:LD "MOST_SIGNS":=by decide +kernel
theorem zgq:LD "checked_function":=by decide +kernel
theorem zgr:LD "checked_kinds":=by decide +kernel
theorem zgs:LD "checked_tie":=by decide +kernel
theorem zgt:LD "functions":=by decide +kernel
theorem zgu:LS "functions":=by decide +kernel
theorem zgv:LD "self":=by decide +kernel
theorem zgw:LS "self":=by decide +kernel
theorem zgx:LD "ties":=by decide +kernel
theorem zgy:LS "ties":=by decide +kernel
def SignsAt (C:Addr) (H:Hp) (x:Addr) (ks:List Str) (ts:List TieR) (fs:List FunR):Prop:=
 ∃ dx kt tt ft tv fv,H x=some (.ins C dx (flF kt tt ft))∧H kt=some (.tup (ks.map V.str))∧H tt=some (.tup tv)∧RdA Any H tv (ts.map tieT)∧H ft=some (.tup fv)∧RdA Any H fv (fs.map funT)
theorem strs_tup:∀ ws:List Str,tupOnlyA (strsD ws)=true
 | []=>rfl
 | x::r=>by
  show (tupOnly (PyData.str x)&&tupOnlyA (strsD r))=true
  rw [strs_tup r]; rfl
theorem tieT_tup (t:TieR):tupOnly (tieT t)=true:=by
 show (true&&(tupOnlyA (strsD t.ps)&&true))=true
 rw [strs_tup]; rfl
theorem funT_tup (t:FunR):tupOnly (funT t)=true:=by
 show (true&&(tupOnlyA (strsD t.ps)&&(true&&true)))=true
 rw [strs_tup]; rfl
theorem ties_tup:∀ ts:List TieR,tupOnlyA (ts.map tieT)=true
 | []=>rfl
 | x::r=>by
  show (tupOnly (tieT x)&&tupOnlyA (r.map tieT))=true
  rw [ties_tup r,tieT_tup]; rfl
theorem funs_tup:∀ ts:List FunR,tupOnlyA (ts.map funT)=true
 | []=>rfl
 | x::r=>by
  show (tupOnly (funT x)&&tupOnlyA (r.map funT))=true
  rw [funs_tup r,funT_tup]; rfl
theorem SignsAt.keep {C:Addr} {H H':Hp} {x:Addr} {ks:List Str} {ts:List TieR} {fs:List FunR} (h:SignsAt C H x ks ts fs) (hx:∀ o,H x=some o→H' x=some o) (ht:Tups H H'):SignsAt C H' x ks ts fs:=by
 obtain⟨dx,kt,tt,ft,tv,fv,h1,h2,h3,h4,h5,h6⟩:=h
 exact⟨dx,kt,tt,ft,tv,fv,hx _ h1,ht _ _ h2,ht _ _ h3,h4.monoT (fun _ z=>z) ht (ties_tup ts),ht _ _ h5,h6.monoT (fun _ z=>z) ht (funs_tup fs)⟩
def nmD:PyData→Str
 | .tuple (.str n::_)=>n
 | _=>Str.empty
theorem nm_ties (ts:List TieR):(ts.map tieT).map nmD=ts.map (·.nm):=by rw [List.map_map]; rfl
theorem nm_funs (ts:List FunR):(ts.map funT).map nmD=ts.map (·.nm):=by rw [List.map_map]; rfl
theorem rows_nm {ts:List TieR} {fs:List FunR} {d:PyData} (h:d∈ts.map tieT++fs.map funT):∃ r,d=.tuple (.str (nmD d)::r):=by
 rcases List.mem_append.mp h with h | h
 ·obtain⟨t,_,rfl⟩:=List.mem_map.mp h
  exact⟨_,rfl⟩
 ·obtain⟨t,_,rfl⟩:=List.mem_map.mp h
  exact⟨_,rfl⟩
section
variable {P:Program} {w:World} {K:PySem.W.Frag} {mg:Str→Option Value} {base:Heap}
abbrev s_kinds:Stmt:=inClass (top 31) 1
theorem zgz:FnScope ["self"] ["self"] (defScope s_kinds):=⟨rfl,rfl,rfl,by decide +kernel,rfl,by decide +kernel,by decide +kernel⟩
theorem zg0:LN .globalImplicit s_kinds "list":=by decide +kernel
theorem zg1:LN .local s_kinds "self":=by decide +kernel
def spTellK (C:Addr):Sp:=fun vs H Q _=>∃ (x:Addr) (ks:List Str) (ts:List TieR) (fs:List FunR),vs=[.ref x]∧SignsAt C H x ks ts fs∧∀ l,H l=none→Q (.ref l) (upd H l (.lst (ks.map V.str)))
theorem ok_tellK {f C:Addr} {fd:FuncData} (F:Fun K "kinds" "Signs.kinds" s_kinds f fd) (Z:Bl mg) (T:ClS K C):FnOk P w K mg base CX0 1 f fd ["self"] (spTellK C):=by
 have SC:=zgz
 refine F.ok zgz (fun vs H Q E h=>?_) (fun cdv A outer s H vs Q E hr h=>?_)
 ·obtain⟨x,ks,ts,fs,rfl,_⟩:=h
  rfl
 ·obtain⟨x,ks,ts,fs,rfl,⟨dx,kt,tt,ft,tv,fv,h1,h2,h3,h4,h5,h6⟩,q⟩:=h
  refine'⟨_,?derivation,?_⟩
  case derivation=>refine' pss_one ?Aa;case Aa=>refine' ps_ret ?Ba;case Ba=>refine' pe_callTy (hn:=zby) (hdb:=zbx) ?Ca zg0 Z.n_list bt_list ?Da rfl rfl;(case Ca=>exact call_list_of);case Da=>refine' pa_cons ?Ea pa_nil ?Fa;(case Ea=>refine' pe_fld (pq 0 (visL zg1) zgv zgw) rfl);case Fa=>rfl
  exact⟨_,rfl,x,C,dx,_,_,rfl,h1,T.cl,T.nK,flF_kinds _ _ _,kt,_,rfl,.inr (SqT.of h2),q⟩
abbrev s__init__:Stmt:=inClass (top 31) 0
theorem zg2:FnScope ["self","kinds","ties","functions"] ["self","kinds","ties","functions"] (defScope s__init__):=⟨rfl,rfl,rfl,by decide +kernel,rfl,by decide +kernel,by decide +kernel⟩
theorem zg3:LN .globalImplicit s__init__ "MOST_SIGNS":=by decide +kernel
theorem zg4:LN .globalImplicit s__init__ "check_apart":=by decide +kernel
theorem zg5:LN .globalImplicit s__init__ "checked_kinds":=by decide +kernel
theorem zg6:LN .local s__init__ "functions":=by decide +kernel
theorem zg7:LN .globalImplicit s__init__ "is_list":=by decide +kernel
theorem zg8:LN .local s__init__ "kinds":=by decide +kernel
theorem zg9:LN .globalImplicit s__init__ "len":=by decide +kernel
theorem zha:LN .cell s__init__ "self":=by decide +kernel
theorem zhb:LN .local s__init__ "ties":=by decide +kernel
theorem zhc:LN .globalImplicit s__init__ "tuple":=by decide +kernel
abbrev QS4:Scope:={kind:=PySem.ScopeKind.function,names:=[(PySem.Str.ofString ".0",PySem.NameKind.local),(PySem.Str.ofString "sign",PySem.NameKind.local)],isGenerator:=false,isCoroutine:=false,more:=[]:PySem.Scope}
theorem zhd:CompSc 1 ["sign","self","kinds","ties","functions"] ["self","kinds","ties","functions"] (defScope s__init__) QS4:=⟨rfl,by decide +kernel,by decide +kernel,by decide +kernel,by decide +kernel,rfl,by decide +kernel⟩
theorem zhe:LC .local QS4 "sign":=by decide +kernel
abbrev QS5:Scope:={kind:=PySem.ScopeKind.function,names:=[ (PySem.Str.ofString ".0",PySem.NameKind.local),(PySem.Str.ofString "function",PySem.NameKind.local),(PySem.Str.ofString "checked_function",PySem.NameKind.globalImplicit),(PySem.Str.ofString "self",PySem.NameKind.free)],isGenerator:=false,isCoroutine:=false,more:=[]:PySem.Scope}
theorem zhf:CompSc 1 ["function","self","kinds","ties","functions"] ["self","kinds","ties","functions"] (defScope s__init__) QS5:=⟨rfl,by decide +kernel,by decide +kernel,by decide +kernel,by decide +kernel,rfl,by decide +kernel⟩
theorem zhg:LC .globalImplicit QS5 "checked_function":=by decide +kernel
theorem zhh:LC .local QS5 "function":=by decide +kernel
theorem zhi:LC .free QS5 "self":=by decide +kernel
abbrev QS6:Scope:={kind:=PySem.ScopeKind.function,names:=[ (PySem.Str.ofString ".0",PySem.NameKind.local),(PySem.Str.ofString "tie",PySem.NameKind.local),(PySem.Str.ofString "checked_tie",PySem.NameKind.globalImplicit),(PySem.Str.ofString "self",PySem.NameKind.free)],isGenerator:=false,isCoroutine:=false,more:=[]:PySem.Scope}
theorem zhj:CompSc 1 ["tie","self","kinds","ties","functions"] ["self","kinds","ties","functions"] (defScope s__init__) QS6:=⟨rfl,by decide +kernel,by decide +kernel,by decide +kernel,by decide +kernel,rfl,by decide +kernel⟩
theorem zhk:LC .globalImplicit QS6 "checked_tie":=by decide +kernel
theorem zhl:LC .free QS6 "self":=by decide +kernel
theorem zhm:LC .local QS6 "tie":=by decide +kernel
def spInit (C:Addr):Sp:=fun vs H Q _=>∃ (x dx a b c:Addr) (ab cd:List (Addr×Addr)) (ks:List Str) (ts:List TieR) (fs:List FunR),vs=[.ref x,.ref a,.ref b,.ref c]∧H x=some (.ins C dx [])∧LT H a (ks.map V.str)∧
 LT H b (ab.map fun q=>V.ref q.1)∧Sgs H ab (ts.map tieRow)∧LT H c (cd.map fun q=>V.ref q.1)∧Sgs H cd (fs.map funRow)∧BookOk ks ts fs∧∀ H',SignsAt C H' x ks ts fs→SameX x H H'→Q .non H'
theorem LT.neIns {H:Hp} {a x C dx:Addr} {xs:List V} {fl:List (Str×V)} (h:LT H a xs) (hx:H x=Option.some (.ins C dx fl)):a≠x:=by
 rintro rfl
 rcases h with h | h <;> (rw [h] at hx; cases hx)
theorem ok_init {f C:Addr} {fd:FuncData} (F:Fun K "__init__" "Signs.__init__" s__init__ f fd) (Z:Bl mg) (G:Gs K mg) (T:ClS K C) (D_is_list:Def P w K mg base "is_list" 1 ["thing"] spIsList) (D_checked_kinds:Def P w K mg base "checked_kinds" 2 ["kinds"] spKinds)
  (D_checked_tie:Def P w K mg base "checked_tie" 4 ["kinds","tie"] spTie) (D_checked_function:Def P w K mg base "checked_function" 4 ["kinds","function"] spFunc) (D_check_apart:Def P w K mg base "check_apart" 1 ["names"] spApart) :
  FnOk P w K mg base CX0 5 f fd ["self","kinds","ties","functions"] (spInit C):=by
 have SC:=zg2
 obtain⟨_,g_MOST_SIGNS,r_MOST_SIGNS⟩:=G.msigns
 refine F.ok zg2 (fun vs H Q E h=>?_) (fun cdv A outer s H vs Q E hr h=>?_)
 ·obtain⟨x,dx,a,b,c,ab,cd,ks,ts,fs,rfl,_⟩:=h
  rfl
 ·obtain⟨x,dx,a,b,c,ab,cd,ks,ts,fs,rfl,hx,hA,hB,sB,hC,sC,ok,q⟩:=h
  have nbx:b≠x:=hB.neIns hx
  have ncx:c≠x:=hC.neIns hx
  have abl:ab.length=ts.length:=by rw [sB.length,List.length_map]
  have cdl:cd.length=fs.length:=by rw [sC.length,List.length_map]
  have sl:=ok.sl
  have sgx:∀ {H':Hp} {q:Addr×Addr} {r:RowR},SameX x H H'→SgAt H q r→SgAt H' q r:=fun s g=>⟨g.row.mono fun o e=>s _ _ (g.row.neIns hx) e,g.plc.mono fun o e=>s _ _ (g.plc.neIns hx) e⟩
  refine'⟨_,?derivation,?_⟩
  case derivation=>refine' pss_cons ?Aa ?Ba;(case Aa=>refine' ps_fld (pq 0 (visC zha) zgv zgw) ?Ca rfl;case Ca=>refine' pe_def (hdb:=zgr) D_checked_kinds (hr.mono (by decide)) zg5 ?Da rfl rfl;case Da=>refine' pa_cons (pq 1 (visL zg8) zeb zec) pa_nil ?Ea;case Ea=>rfl);case Ba=>refine' pss_cons ?Fa ?Ga;(case Fa=>refine' ps_if ?Ha ?Ia pss_nil;(case Ha=>refine' PW.pt ?Ja;case Ja=>refine' pw_or ?Ka ?La;(case Ka=>refine' pt_not ?Ma;case Ma=>refine' pt_val ?Na ?Oa;(case Na=>refine' pe_def (hdb:=zd5) D_is_list (hr.mono (by decide)) zg7 ?Pa rfl rfl;case Pa=>refine' pa_cons (pq 2 (visL zhb) zgx zgy) pa_nil ?Qa;case Qa=>rfl);case Oa=>intro _; rfl);case La=>refine' pw_or1 ?Ra;case Ra=>refine' pt_not ?Sa;case Sa=>refine' pt_val ?Ta ?Ua;(case Ta=>refine' pe_def (hdb:=zd5) D_is_list (hr.mono (by decide)) zg7 ?Va rfl rfl;case Va=>refine' pa_cons (pq 3 (visL zg6) zgt zgu) pa_nil ?Wa;case Wa=>rfl);case Ua=>intro _; rfl);case Ia=>refine' pss_one ps_never);case Ga=>refine' pss_cons ?Xa ?Ya;(case Xa=>refine' ps_if ?Za ?Ab pss_nil;(case Za=>refine' pt_cmpR op_gt ?Bb ?Cb (nomark _);(case Bb=>refine' pe_op op_add ?Db ?Eb;(case Db=>refine' pe_callB (hn:=zbw) (hdb:=zbv) call_len_seq zg9 Z.n_len bt_len ?Fb rfl rfl;case Fb=>refine' pa_cons (pq 2 (visL zhb) zgx zgy) pa_nil ?Gb;case Gb=>rfl);case Eb=>refine' pe_callB (hn:=zbw) (hdb:=zbv) call_len_seq zg9 Z.n_len bt_len ?Hb rfl rfl;case Hb=>refine' pa_cons (pq 3 (visL zg6) zgt zgu) pa_nil ?Ib;case Ib=>rfl);case Cb=>refine' pe_glob (hd:=zgp) zg3 g_MOST_SIGNS r_MOST_SIGNS);case Ab=>refine' pss_one ps_never);case Ya=>refine' pss_cons ?Jb ?Kb;(case Jb=>refine' ps_fld (pq 0 (visC zha) zgv zgw) ?Lb rfl;case Lb=>refine' pe_callTy (hn:=zeu) (hdb:=zet) ?Mb zhc Z.n_tuple bt_tuple ?Nb rfl rfl;(case Mb=>exact call_tuple_of);case Nb=>refine' pa_cons ?Ob pa_nil ?Pb;(case Ob=>refine' pe_comp noxe rfl zhj.at ?Qb ?Rb ?Sb ?Tb;(case Qb=>refine' pi_seq (pq 2 (visL zhb) zgx zgy));(case Rb=>intro _ _ _ _ _;refine' pg_name (i:=0) zhj.nd rfl (locO zhm) (.inr (lookup_relabel_local zhm)));(case Sb=>intro _ _ _ _ _;refine' pe_def (hdb:=zgs) D_checked_tie (hr.mono (by decide)) (glO zhk) ?Ub rfl rfl;case Ub=>refine' pa_cons ?Vb ?Wb ?Xb;(case Vb=>refine' pe_fld (pq 1 (visF zhl) zgv zgw) rfl);(case Wb=>refine' pa_cons (pq 0 (visO zhm) zer zes) pa_nil ?Yb;case Yb=>rfl);case Xb=>rfl);case Tb=>intro _; rfl);case Pb=>rfl);case Kb=>refine' pss_cons ?Zb ?Ac;(case Zb=>refine' ps_fld (pq 0 (visC zha) zgv zgw) ?Bc rfl;case Bc=>refine' pe_callTy (hn:=zeu) (hdb:=zet) ?Cc zhc Z.n_tuple bt_tuple ?Dc rfl rfl;(case Cc=>exact call_tuple_of);case Dc=>refine' pa_cons ?Ec pa_nil ?Fc;(case Ec=>refine' pe_comp noxe rfl zhf.at ?Gc ?Hc ?Ic ?Jc;(case Gc=>refine' pi_seq (pq 3 (visL zg6) zgt zgu));(case Hc=>intro _ _ _ _ _;refine' pg_name (i:=0) zhf.nd rfl (locO zhh) (.inr (lookup_relabel_local zhh)));(case Ic=>intro _ _ _ _ _;refine' pe_def (hdb:=zgq) D_checked_function (hr.mono (by decide)) (glO zhg) ?Kc rfl rfl;case Kc=>refine' pa_cons ?Lc ?Mc ?Nc;(case Lc=>refine' pe_fld (pq 1 (visF zhi) zgv zgw) rfl);(case Mc=>refine' pa_cons (pq 0 (visO zhh) zd3 zd4) pa_nil ?Oc;case Oc=>rfl);case Nc=>rfl);case Jc=>intro _; rfl);case Fc=>rfl);case Ac=>refine' pss_one ?Pc;case Pc=>refine' ps_expr ?Qc rfl;case Qc=>refine' pe_def (hdb:=zdz) D_check_apart (hr.mono (by decide)) zg4 ?Rc rfl rfl;case Rc=>refine' pa_cons ?Sc pa_nil ?Tc;(case Sc=>refine' pe_comp noxe rfl zhd.at ?Uc ?Vc ?Wc ?Xc;(case Uc=>refine' pi_tup ?Yc;case Yc=>refine' pe_op op_catTT ?Zc ?Ad;(case Zc=>refine' pe_fld (pq 0 (visC zha) zgv zgw) rfl);case Ad=>refine' pe_fld (pq 0 (visC zha) zgv zgw) rfl);(case Vc=>intro _ _ _ _ _;refine' pg_name (i:=0) zhd.nd rfl (locO zhe) (.inr (lookup_relabel_local zhe)));(case Wc=>intro _ _ _ _ _;refine' pe_ix ix_tup (pq 0 (visO zhe) zel zem) ?Bd ?Cd;(case Bd=>exact pe_int);case Cd=>intro _ _;exact rfl);case Xc=>intro _; rfl);case Tc=>rfl
  refine⟨_,rfl,a,ks,rfl,hA,⟨ok.kn,ok.k1,ok.k4,ok.kn2⟩,fun kt H1 hkt s1=>?_⟩
  refine⟨_,rfl,x,C,dx,_,rfl,s1 _ _ hx,T.cl,T.nK,by decide,?_⟩
  have nkx:kt≠x:=by rintro rfl; rw [s1 _ _ hx] at hkt; cases hkt
  generalize hG2:upd H1 x (.ins C dx (putF "kept_kinds" (.ref kt) []))=H2
  have x2:H2 x=some (.ins C dx (flK kt)):=by rw [← hG2]; exact upd_same
  have k2:H2 kt=some (.tup (ks.map V.str)):=by rw [← hG2,upd_ne nkx]; exact hkt
  have S2:SameX x H H2:=by rw [← hG2]; exact s1.x.trans (SameX.upd x H1 _)
  refine⟨_,rfl,b,_,rfl,hB.mono fun o e=>S2 _ _ nbx e,fun H3 s3=>⟨true,rfl,iteF ?_⟩⟩
  have S3:=S2.same s3
  refine⟨_,rfl,c,_,rfl,hC.mono fun o e=>S3 _ _ ncx e,fun H4 s4=>⟨true,rfl,iteF ?_⟩⟩
  have S4:=S3.same s4
  refine⟨_,rfl,b,_,rfl,(hB.mono fun o e=>S4 _ _ nbx e).sq,_,rfl,c,_,rfl,(hC.mono fun o e=>S4 _ _ ncx e).sq,_,_,rfl,rfl,_,_,rfl,rfl,_,rfl,ifF (by rw [List.length_map,List.length_map]; simp; omega) ?_⟩
  have s24:Same H2 H4:=s3.trans s4
  refine(hB.mono fun o e=>S4 _ _ nbx e).over rfl fun J O=>?_
  intro cl C1 ex s0 H0
  refine O.comp (fun i ys H5=>RdA Any H5 ys ((ts.take i).map tieT)∧Same H4 H5) ⟨.nil,Same.refl _⟩ (by rw [List.length_map]; exact Nat.le_trans (show ab.length≤8 by omega) (by decide)) (fun i ys H5 _ ⟨_,z⟩ o e=>z b o e) ?_ ?_
  ·rintro i y ys H5 hi hy ⟨r5,s5⟩
   rw [List.getElem?_map] at hi
   obtain⟨qq,hq,rfl⟩:=Option.map_eq_some_iff.mp hi
   obtain⟨r,hr',sg⟩:=sB.get hq
   rw [List.getElem?_map] at hr'
   obtain⟨t,ht,rfl⟩:=Option.map_eq_some_iff.mp hr'
   have s25:=s24.trans s5
   have sg5:=sgx (S4.same s5) sg
   refine⟨_,rfl,x,C,dx,_,_,rfl,s25 _ _ x2,T.cl,T.nK,flK_kinds _,_,rfl,kt,qq.1,qq.2,ks,t.ps,t.nm,rfl,.inr (s25 _ _ k2),ok.kn2,sg5.row,sg5.plc,ok.tn t (List.mem_of_getElem? ht),fun tt u H6 h6 h7 s6=>⟨?_,s5.trans s6⟩⟩
   rw [List.take_succ,ht]
   show RdA Any H6 (ys++[.ref tt]) (List.map tieT (ts.take i++[t]))
   rw [List.map_append]
   exact(r5.same s6).snoc (.tup trivial h6 (.cons (.str _) (.cons (.tup trivial h7 (RdA.strs _)) .nil)))
  rintro tv H5 hy ⟨r5,s5⟩ D1 hD1
  rw [List.length_map,abl,List.take_length] at r5
  refine⟨D1,tv,rfl,.inl ⟨SqL.of upd_same,fun tt htt=>?_⟩⟩
  have s6:=(same_new hD1 (.lst tv)).trans (same_new htt (.tup tv))
  have s26:=(s24.trans s5).trans s6
  refine⟨_,rfl,x,C,dx,_,rfl,s26 _ _ x2,T.cl,T.nT,flK_len _,?_⟩
  have tt6:(upd (upd H5 D1 (.lst tv)) tt (.tup tv)) tt=some (.tup tv):=upd_same
  generalize (upd (upd H5 D1 (.lst tv)) tt (.tup tv))=G6 at s6 s26 tt6
  have ntx:tt≠x:=by rintro rfl; rw [s26 _ _ x2] at tt6; cases tt6
  generalize hG7:upd G6 x (.ins C dx (putF "kept_ties" (.ref tt) (flK kt)))=H7
  have x7:H7 x=some (.ins C dx (flT kt tt)):=by rw [← hG7]; exact upd_same
  have S67:SameX x G6 H7:=by rw [← hG7]; exact SameX.upd x G6 _
  have t7:H7 tt=some (.tup tv):=S67 _ _ ntx tt6
  have k7:H7 kt=some (.tup (ks.map V.str)):=S67 _ _ nkx (s26 _ _ k2)
  have S7:SameX x H H7:=(S2.same s26).trans S67
  have T67:Tups G6 H7:=fun p xs e=>S67 p _ (fun z=>by rw [z,s26 _ _ x2] at e; cases e) e
  have r7:RdA Any H7 tv (ts.map tieT):=(r5.same s6).monoT (fun _ z=>z) T67 (ties_tup ts)
  refine(hC.mono fun o e=>S7 _ _ ncx e).over rfl fun J O=>?_
  intro cl C1 ex s0 H0
  refine O.comp (fun i ys H8=>RdA Any H8 ys ((fs.take i).map funT)∧Same H7 H8) ⟨.nil,Same.refl _⟩ (by rw [List.length_map]; exact Nat.le_trans (show cd.length≤8 by omega) (by decide)) (fun i ys H8 _ ⟨_,z⟩ o e=>z c o e) ?_ ?_
  ·rintro i y ys H8 hi hy ⟨r8,s8⟩
   rw [List.getElem?_map] at hi
   obtain⟨qq,hq,rfl⟩:=Option.map_eq_some_iff.mp hi
   obtain⟨r,hr',sg⟩:=sC.get hq
   rw [List.getElem?_map] at hr'
   obtain⟨t,ht,rfl⟩:=Option.map_eq_some_iff.mp hr'
   have sg8:=sgx (S7.same s8) sg
   obtain⟨o1,o2,o3,o4⟩:=ok.fn t (List.mem_of_getElem? ht)
   refine⟨_,rfl,x,C,dx,_,_,rfl,s8 _ _ x7,T.cl,T.nK,flT_kinds _ _,_,rfl,kt,qq.1,qq.2,ks,t.ps,t.nm,t.kd,rfl,.inr (s8 _ _ k7),ok.kn2,sg8.row,sg8.plc,⟨o1,o2,o3⟩,o4,fun tt u H9 h6 h7 s9=>⟨?_,s8.trans s9⟩⟩
   rw [List.take_succ,ht]
   show RdA Any H9 (ys++[.ref tt]) (List.map funT (fs.take i++[t]))
   rw [List.map_append]
   exact(r8.same s9).snoc (.tup trivial h6 (.cons (.str _) (.cons (.tup trivial h7 (RdA.strs _)) (.cons (.str _) .nil))))
  rintro fv H8 hy2 ⟨r8,s8⟩ D2 hD2
  rw [List.length_map,cdl,List.take_length] at r8
  refine⟨D2,fv,rfl,.inl ⟨SqL.of upd_same,fun ft hft=>?_⟩⟩
  have s9:=s8.trans ((same_new hD2 (.lst fv)).trans (same_new hft (.tup fv)))
  have r9:=r8.same ((same_new hD2 (.lst fv)).trans (same_new hft (.tup fv)))
  refine⟨_,rfl,x,C,dx,_,rfl,s9 _ _ x7,T.cl,T.nF,flT_len _ _,?_⟩
  have ft9:(upd (upd H8 D2 (.lst fv)) ft (.tup fv)) ft=some (.tup fv):=upd_same
  generalize (upd (upd H8 D2 (.lst fv)) ft (.tup fv))=G9 at s9 r9 ft9
  have nfx:ft≠x:=by rintro rfl; rw [s9 _ _ x7] at ft9; cases ft9
  generalize hG10:upd G9 x (.ins C dx (putF "kept_functions" (.ref ft) (flT kt tt)))=HA
  have xA:HA x=some (.ins C dx (flF kt tt ft)):=by rw [← hG10]; exact upd_same
  have S9A:SameX x G9 HA:=by rw [← hG10]; exact SameX.upd x G9 _
  have T9A:Tups G9 HA:=fun p xs e=>S9A p _ (fun z=>by rw [z,s9 _ _ x7] at e; cases e) e
  have tA:HA tt=some (.tup tv):=S9A _ _ ntx (s9 _ _ t7)
  have fA:HA ft=some (.tup fv):=S9A _ _ nfx ft9
  have kA:HA kt=some (.tup (ks.map V.str)):=S9A _ _ nkx (s9 _ _ k7)
  have rtA:RdA Any HA tv (ts.map tieT):=(r7.same s9).monoT (fun _ z=>z) T9A (ties_tup ts)
  have rfA:RdA Any HA fv (fs.map funT):=r9.monoT (fun _ z=>z) T9A (funs_tup fs)
  have SA:SameX x H HA:=(S7.same s9).trans S9A
  have tvl:tv.length=ts.length:=by rw [rtA.length,List.length_map]
  have fvl:fv.length=fs.length:=by rw [rfA.length,List.length_map]
  have small:tv.length+fv.length≤sizeLine:=Nat.le_trans (show tv.length+fv.length≤8 by omega) (by decide)
  refine⟨_,rfl,x,C,dx,_,_,rfl,xA,T.cl,T.nT,flF_ties _ _ _,_,rfl,x,C,dx,_,_,rfl,xA,T.cl,T.nF,flF_funs _ _ _,?_⟩
  refine cat_of tA fA small fun p HB hp sB'=>?_
  refine⟨p,rfl,⟨_,SqT.of hp⟩,?_⟩
  have rB:RdA Any HB (tv++fv) (ts.map tieT++fs.map funT):=(rtA.append rfA).same sB'
  intro cl C1 ex s0 H0
  refine comp_it1 (tv++fv).length (fun i ys HC=>ys=(((ts.map tieT++fs.map funT).map nmD).take i).map V.str∧Same HB HC) (fun i y=>(tv++fv)[i]? = some y) ⟨rfl,Same.refl _⟩ (by rw [List.length_append]; exact small) (fun i ys HC hi _ ⟨_,z⟩=>go_tup (SqT.of (z _ _ hp)) hi) (fun ys HC _ ⟨_,z⟩=>stop_tup (SqT.of (z _ _ hp))) ?_ ?_
  ·rintro i y ys HC hi hy _ ⟨rfl,sC'⟩
   obtain⟨d,hd,rd⟩:=rB.getV hy
   obtain⟨rr,e⟩:=rows_nm (List.mem_of_getElem? hd)
   rw [e] at rd
   obtain⟨py,px,rfl,_,hpy,hpx⟩:=rd.tuple_inv
   cases hpx with | cons a1 t1=>
   obtain rfl:=a1.str_inv
   refine⟨_,rfl,py,_,_,_,rfl,rfl,SqT.of (sC' _ _ hpy),atI_int (x:=V.str (nmD d)) (by decide) rfl,?_,sC'⟩
   rw [List.take_succ,List.getElem?_map,hd]
   exact(List.map_append (l₂:=[nmD d])).symm
  rintro ys HC hyl ⟨rfl,sC'⟩ D3 hD3
  have el:(((ts.map tieT++fs.map funT).map nmD).take (tv++fv).length)=ts.map (·.nm)++fs.map (·.nm):=by
   rw [List.map_append,nm_ties,nm_funs,List.take_of_length_le]
   simp [tvl,fvl]
  rw [el]
  refine⟨D3,_,rfl,.inl upd_same,ok.sn,by simp; omega,fun HD sD=>?_⟩
  have sAD:Same HA HD:=(sB'.trans sC').trans ((same_new hD3 _).trans sD)
  refine q HD ⟨dx,kt,tt,ft,tv,fv,sAD _ _ xA,sAD _ _ kA,sAD _ _ tA,rtA.same sAD,sAD _ _ fA,rfA.same sAD⟩ (SA.same sAD)
end
theorem zhn:LD "MOST_THINGS":=by decide +kernel
theorem zho:LD "NoSize":=by decide +kernel
theorem zhp:LD "bool":=by decide +kernel
theorem zhq:LM "bool":=by decide +kernel
theorem zhr:LD "int":=by decide +kernel
theorem zhs:LM "int":=by decide +kernel
theorem zht:LD "is_whole":=by decide +kernel
theorem zhu:LD "number":=by decide +kernel
theorem zhv:LS "number":=by decide +kernel
theorem zhw:LD "signs":=by decide +kernel
theorem zhx:LS "signs":=by decide +kernel
theorem zhy:LD "size":=by decide +kernel
theorem zhz:LS "size":=by decide +kernel
def rowO:Option HO→Option (List V)
 | some (.lst xs)=>some xs
 | some (.tup xs)=>some xs
 | _=>none
def rowOf (H:Hp):V→Option (List V)
 | .ref a=>rowO (H a)
 | _=>none
theorem rowOf.lt {H:Hp} {v:V} {xs:List V} (h:rowOf H v=some xs):∃ a,v=.ref a∧LT H a xs:=by
 cases v with
 | ref a=>
  refine⟨a,rfl,?_⟩
  replace h:rowO (H a)=some xs:=h
  unfold rowO at h
  split at h
  ·rename_i e; exact .inl (by rw [e,Option.some.inj h])
  ·rename_i e; exact .inr (by rw [e,Option.some.inj h])
  ·cases h
 | _=>cases h
theorem row_of {H:Hp} {a:Addr} {xs:List V} (h:LT H a xs):rowOf H (.ref a)=some xs:=by
 show rowO (H a)=some xs
 rcases h with h | h <;> (rw [h]; rfl)
theorem row_dct {H:Hp} {a:Addr} {kvs:List (Key×V)} (h:H a=some (.dK kvs)):rowOf H (.ref a)=none:=by
 show rowO (H a)=none
 rw [h]; rfl
inductive Sh (H:Hp):V→Prop where
 | non:Sh H .non
 | bl (b:Bool):Sh H (.bl b)
 | int (i:Int):Sh H (.int i)
 | str (z:Str):Sh H (.str z)
 | row {a:Addr} {xs:List V} (h:LT H a xs):Sh H (.ref a)
 | dct {a:Addr} {kvs:List (Key×V)} (h:H a=some (.dK kvs)):Sh H (.ref a)
theorem Sh.same {H H':Hp} {v:V} (h:Sh H v) (s:Same H H'):Sh H' v:=by
 cases h with
 | non=>exact .non
 | bl b=>exact .bl b
 | int i=>exact .int i
 | str z=>exact .str z
 | row h=>exact .row (h.same s)
 | dct h=>exact .dct (s _ _ h)
theorem Sh.rows {H H':Hp} {v:V} (h:Sh H v) (s:Same H H'):rowOf H' v=rowOf H v:=by
 cases h with
 | non=>rfl
 | bl b=>rfl
 | int i=>rfl
 | str z=>rfl
 | row h=>rw [row_of h,row_of (h.same s)]
 | dct h=>rw [row_dct h,row_dct (s _ _ h)]
theorem Sh.isi2 {K:PySem.W.Frag} {H:Hp} {v:V} (h:Sh H v):∃ t,TyOf K H v t∧PySem.W.kitAny K t [.type "list",.type "tuple"]=some (rowOf H v).isSome:=by
 cases h with
 | non=>exact⟨_,.non,rfl⟩
 | bl b=>exact⟨_,.bl b,rfl⟩
 | int i=>exact⟨_,.int i,rfl⟩
 | str z=>exact⟨_,.str z,rfl⟩
 | row h=>
  obtain⟨t,h1,h2⟩:=h.isi2 (K:=K)
  exact⟨t,h1,by rw [row_of h]; exact h2⟩
 | dct h=>exact⟨_,.dK h,by rw [row_dct h]; rfl⟩
def isInt:V→Bool
 | .int _=>true
 | _=>false
def isNum:V→Bool
 | .int _=>true
 | .bl _=>true
 | _=>false
def isBl:V→Bool
 | .bl _=>true
 | _=>false
theorem Sh.isI {K:PySem.W.Frag} {H:Hp} {v:V} (h:Sh H v):∃ t,TyOf K H v t∧PySem.W.kitOne K t (.type "int")=some (isNum v)∧PySem.W.kitOne K t (.type "bool")=some (isBl v):=by
 cases h with
 | non=>exact⟨_,.non,rfl,rfl⟩
 | bl b=>exact⟨_,.bl b,rfl,rfl⟩
 | int i=>exact⟨_,.int i,rfl,rfl⟩
 | str z=>exact⟨_,.str z,rfl,rfl⟩
 | row h=>
  rcases h with h | h
  ·exact⟨_,.lst h,rfl,rfl⟩
  ·exact⟨_,.tup h,rfl,rfl⟩
 | dct h=>exact⟨_,.dK h,rfl,rfl⟩
abbrev iV:Nat→V:=fun n=>.int n
structure SizeOk (ks:List Str) (ns:List Nat):Prop where
 len:ns.length=ks.length
 one:∀ n∈ns,1≤n
 four:∀ n∈ns,n≤4
def Good (H:Hp) (ks:List Str) (v:V):Prop:=∃ ns:List Nat,rowOf H v=some (ns.map iV)∧SizeOk ks ns
def okN:V→Prop
 | .int i=>1≤i∧i≤4
 | _=>False
theorem nums_of:∀ {xs:List V},(∀ x∈xs,okN x)→∃ ns:List Nat,xs=ns.map iV∧∀ n∈ns,1≤n∧n≤4
 | [],_=>⟨[],rfl,fun _ z=>nomatch z⟩
 | x::r,h=>by
  obtain⟨ns,e2,h2⟩:=nums_of (xs:=r) fun y hy=>h y (List.mem_cons_of_mem _ hy)
  have hx:=h x List.mem_cons_self
  cases x with
  | int i=>
   obtain⟨h1,h4⟩:=(show 1≤i∧i≤4 from hx)
   refine⟨i.toNat::ns,?_,fun n hn=>?_⟩
   ·rw [e2,List.map_cons]
    show V.int i::_=V.int (i.toNat:Int)::_
    rw [Int.toNat_of_nonneg (by omega)]
   ·rcases List.mem_cons.mp hn with rfl | hn
    ·omega
    ·exact h2 n hn
  | _=>exact(show False from hx).elim
theorem ok_of {ks:List Str} {ns:List Nat} (o:SizeOk ks ns) {x:V} (h:x∈ns.map iV):okN x:=by
 obtain⟨n,hn,rfl⟩:=List.mem_map.mp h
 have:=o.one n hn
 have:=o.four n hn
 show (1:Int)≤(n:Int)∧(n:Int)≤4
 omega
theorem no_kinds {kt tt ft:Addr}:(flF kt tt ft).lookup ("kinds":Str)=none:=fl_no (by decide +kernel) (by decide +kernel) (by decide +kernel)
theorem SignsAt.same {C:Addr} {H H':Hp} {x:Addr} {ks:List Str} {ts:List TieR} {fs:List FunR} (h:SignsAt C H x ks ts fs) (s:Same H H'):SignsAt C H' x ks ts fs:=h.keep (fun o e=>s x o e) (Same.tups s)
section
variable {P:Program} {w:World} {K:PySem.W.Frag} {mg:Str→Option Value} {base:Heap}
def spIsListO:Sp:=fun vs H Q _=>∃ v,vs=[v]∧Sh H v∧∀ H',Same H H'→Q (.bl (rowOf H v).isSome) H'
theorem ok_is_listO (F:FunAt K mg "is_list" s_is_list ["thing"]) (Z:Bl mg):DefE P w K mg base "is_list" 1 ["thing"] spIsListO:=by
 have SC:=zev
 refine F.mkE (k:=0) zev (fun vs H Q E h=>?_) (fun f cdv A outer s H vs Q E hr h=>?_)
 ·obtain⟨v,rfl,_⟩:=h
  rfl
 ·obtain⟨v,rfl,hv,q⟩:=h
  refine'⟨_,?derivation,?_⟩
  case derivation=>refine' pss_one ?Aa;case Aa=>refine' ps_ret ?Ba;case Ba=>refine' pe_callB (hn:=zd8) (hdb:=zd7) (call_isi2 (T:="list") (U:="tuple")) zew Z.n_isinstance bt_isinstance ?Ca rfl rfl;case Ca=>refine' pa_cons (pq 0 (visL zey) zep zeq) ?Da ?Ea;(case Da=>refine' pa_cons ?Fa pa_nil ?Ga;(case Fa=>refine' pe_tup ?Ha;case Ha=>refine' pa_cons ?Ia ?Ja ?Ka;(case Ia=>refine' pe_bltn (v:=V.ty "list") (hn:=zby) (hd:=zbx) zex Z.n_list bt_list rfl);(case Ja=>refine' pa_cons ?La pa_nil ?Ma;(case La=>refine' pe_bltn (v:=V.ty "tuple") (hn:=zeu) (hd:=zet) zez Z.n_tuple bt_tuple rfl);case Ma=>rfl);case Ka=>rfl);case Ga=>rfl);case Ea=>rfl
  refine⟨_,rfl,by show 2≤sizeLine; decide,fun t ht=>?_⟩
  have st:=same_new ht (.tup [.ty "list",.ty "tuple"])
  obtain⟨ty,hty,hk⟩:=(hv.same st).isi2 (K:=K)
  rw [hv.rows st] at hk
  exact⟨_,t,ty,_,rfl,upd_same,hty,hk,q _ st⟩
abbrev s_is_whole:Stmt:=top 16
theorem zh0:FnScope ["thing"] ["thing"] (defScope s_is_whole):=⟨rfl,rfl,rfl,by decide +kernel,rfl,by decide +kernel,by decide +kernel⟩
theorem zh1:LN .globalImplicit s_is_whole "bool":=by decide +kernel
theorem zh2:LN .globalImplicit s_is_whole "int":=by decide +kernel
theorem zh3:LN .globalImplicit s_is_whole "isinstance":=by decide +kernel
theorem zh4:LN .local s_is_whole "thing":=by decide +kernel
def spWholeO:Sp:=fun vs H Q _=>∃ v,vs=[v]∧Sh H v∧Q (.bl (isInt v)) H
theorem ok_wholeO (F:FunAt K mg "is_whole" s_is_whole ["thing"]) (Z:Bl mg) (n_bool:mg "bool"=none):DefE P w K mg base "is_whole" 1 ["thing"] spWholeO:=by
 have SC:=zh0
 refine F.mkE (k:=0) zh0 (fun vs H Q E h=>?_) (fun f cdv A outer s H vs Q E hr h=>?_)
 ·obtain⟨v,rfl,_⟩:=h
  rfl
 ·obtain⟨v,rfl,hv,q⟩:=h
  refine'⟨_,?derivation,?_⟩
  case derivation=>refine' pss_one ?Aa;case Aa=>refine' ps_ret ?Ba;case Ba=>refine' pe_and ?Ca ?Da;(case Ca=>refine' pe_callB (hn:=zd8) (hdb:=zd7) (call_isiT (T:="int")) zh3 Z.n_isinstance bt_isinstance ?Ea rfl rfl;case Ea=>refine' pa_cons (pq 0 (visL zh4) zep zeq) ?Fa ?Ga;(case Fa=>refine' pa_cons ?Ha pa_nil ?Ia;(case Ha=>refine' pe_bltn (v:=V.ty "int") (hn:=zhs) (hd:=zhr) zh2 Z.n_int bt_int rfl);case Ia=>rfl);case Ga=>rfl);case Da=>refine' pe_one ?Ja;case Ja=>refine' pe_not ?Ka;case Ka=>refine' pe_callB (hn:=zd8) (hdb:=zd7) (call_isiT (T:="bool")) zh3 Z.n_isinstance bt_isinstance ?La rfl rfl;case La=>refine' pa_cons (pq 0 (visL zh4) zep zeq) ?Ma ?Na;(case Ma=>refine' pa_cons ?Oa pa_nil ?Pa;(case Oa=>refine' pe_bltn (v:=V.ty "bool") (hn:=zhq) (hd:=zhp) zh1 n_bool bt_bool rfl);case Pa=>rfl);case Na=>rfl
  obtain⟨t,hty,hi,hb⟩:=hv.isI (K:=K)
  refine⟨_,rfl,_,_,_,rfl,hty,hi,?_⟩
  cases v with
  | int i=>exact⟨true,rfl,ifT rfl ⟨_,rfl,_,_,_,rfl,hty,hb,false,rfl,q⟩⟩
  | bl b=>exact⟨true,rfl,ifT rfl ⟨_,rfl,_,_,_,rfl,hty,hb,true,rfl,q⟩⟩
  | _=>exact⟨false,rfl,ifF (by decide) q⟩
abbrev s_checked_size:Stmt:=top 19
theorem zh5:FnScope ["signs","size","number"] ["signs","size"] (defScope s_checked_size):=⟨rfl,rfl,rfl,by decide +kernel,rfl,by decide +kernel,by decide +kernel⟩
theorem zh6:LN .globalImplicit s_checked_size "MOST_THINGS":=by decide +kernel
theorem zh7:LN .globalImplicit s_checked_size "NoSize":=by decide +kernel
theorem zh8:LN .globalImplicit s_checked_size "is_list":=by decide +kernel
theorem zh9:LN .globalImplicit s_checked_size "is_whole":=by decide +kernel
theorem zia:LN .globalImplicit s_checked_size "len":=by decide +kernel
theorem zib:LN .local s_checked_size "number":=by decide +kernel
theorem zic:LN .local s_checked_size "signs":=by decide +kernel
theorem zid:LN .local s_checked_size "size":=by decide +kernel
def spSizeE (C N:Addr):Sp:=fun vs H Q E=>∃ (x:Addr) (v:V) (ks:List Str) (ts:List TieR) (fs:List FunR),vs=[.ref x,v]∧SignsAt C H x ks ts fs∧Sh H v∧(∀ xs,rowOf H v=some xs→∀ y∈xs,Sh H y)∧(Good H ks v→∀ H',Same H H'→Q v H')∧(¬ Good H ks v→∀ H',Same H H'→E (.ref N) none H')
theorem ok_sizeE {C N f1:Addr} {fd1:FuncData} (F:FunAt K mg "checked_size" s_checked_size ["signs","size"]) (Z:Bl mg) (T:ClS K C) (O_NoSize:ExcCls K mg "NoSize" N) (GT:∃ u,mg "MOST_THINGS"=some u∧RelV (.int 4) u)
  (m_kinds:Meth K C "kinds" f1) (G_kinds:FnOk P w K mg base CX0 1 f1 fd1 ["self"] (spTellK C)) (b_kinds:Binds K fd1 ["self"] [])
  (D_is_list:DefE P w K mg base "is_list" 1 ["thing"] spIsListO) (D_is_whole:DefE P w K mg base "is_whole" 1 ["thing"] spWholeO):DefE P w K mg base "checked_size" 2 ["signs","size"] (spSizeE C N):=by
 have SC:=zh5
 obtain⟨_,g_MOST_THINGS,r_MOST_THINGS⟩:=GT
 refine F.mkE (k:=1) zh5 (fun vs H Q E h=>?_) (fun f cdv A outer s H vs Q E hr h=>?_)
 ·obtain⟨x,v,ks,ts,fs,rfl,_⟩:=h
  rfl
 ·obtain⟨x,v,ks,ts,fs,rfl,hS,hv,hin,q,no⟩:=h
  obtain⟨dx,_,_,_,_,_,x2,_⟩:=id hS
  have one:1≤sizeLine:=by decide
  refine'⟨_,?derivation,?_⟩
  case derivation=>refine' pss_cons ?Aa ?Ba;(case Aa=>refine' ps_if ?Ca ?Da pss_nil;(case Ca=>refine' PW.pt ?Ea;case Ea=>refine' pw_or ?Fa ?Ga;(case Fa=>refine' pt_not ?Ha;case Ha=>refine' pt_val ?Ia ?Ja;(case Ia=>refine' pe_defE (hdb:=zd5) framed_of D_is_list (hr.mono (by decide)) zh8 ?Ka rfl rfl;case Ka=>refine' pa_cons (pq 1 (visL zid) zhy zhz) pa_nil ?La;case La=>rfl);case Ja=>intro _; rfl);case Ga=>refine' pw_or1 ?Ma;case Ma=>refine' pt_cmpR op_ne ?Na ?Oa (nomark _);(case Na=>refine' pe_callB (hn:=zbw) (hdb:=zbv) call_len_seq zia Z.n_len bt_len ?Pa rfl rfl;case Pa=>refine' pa_cons (pq 1 (visL zid) zhy zhz) pa_nil ?Qa;case Qa=>rfl);case Oa=>refine' pe_callB (hn:=zbw) (hdb:=zbv) call_len_seq zia Z.n_len bt_len ?Ra rfl rfl;case Ra=>refine' pa_cons ?Sa pa_nil ?Ta;(case Sa=>refine' pe_meth0 (pq 0 (visL zic) zhw zhx) T.cl m_kinds G_kinds (hr.mono (by decide)) b_kinds .nil pass0 rfl);case Ta=>rfl);case Da=>refine' pss_one ?Ua;case Ua=>refine' ps_raise (hdb:=zho) framed_of rfl O_NoSize zh7 ?Va rfl rfl;case Va=>refine' pa_cons ?Wa pa_nil ?Xa;(case Wa=>exact pe_str);case Xa=>rfl);case Ba=>refine' pss_cons ?Ya ?Za;(case Ya=>refine' ps_for passes_xe rfl ?Ab ?Bb ?Cb ?Db;(case Ab=>refine' pi_seq (pq 1 (visL zid) zhy zhz));(case Bb=>refine' pg_name (i:=2) (x:=Str.ofString "number") SC.nd rfl (Or.inl zib) (.inl rfl));(case Cb=>refine' pss_one ?Eb;case Eb=>refine' ps_if ?Fb ?Gb pss_nil;(case Fb=>refine' PW.pt ?Hb;case Hb=>refine' pw_or ?Ib ?Jb;(case Ib=>refine' pt_not ?Kb;case Kb=>refine' pt_val ?Lb ?Mb;(case Lb=>refine' pe_defE (hdb:=zht) framed_of D_is_whole (hr.mono (by decide)) zh9 ?Nb rfl rfl;case Nb=>refine' pa_cons (pq 2 (visL zib) zhu zhv) pa_nil ?Ob;case Ob=>rfl);case Mb=>intro _; rfl);case Jb=>refine' pw_or1 ?Pb;case Pb=>refine' pt_not ?Qb;case Qb=>refine' pt_chain op_le op_le ?Rb (pq 2 (visL zib) zhu zhv) ?Sb ?Tb;(case Rb=>exact pe_int);(case Sb=>refine' pe_glob (hd:=zhn) zh6 g_MOST_THINGS r_MOST_THINGS);case Tb=>with_unfolding_all rfl);case Gb=>refine' pss_one ?Ub;case Ub=>refine' ps_raise (hdb:=zho) framed_of rfl O_NoSize zh7 ?Vb rfl rfl;case Vb=>refine' pa_cons ?Wb pa_nil ?Xb;(case Wb=>exact pe_str);case Xb=>rfl);case Db=>intro _; rfl);case Za=>refine' pss_one ?Yb;case Yb=>refine' ps_ret (pq 1 (visL zid) zhy zhz)
  refine⟨_,rfl,v,rfl,hv,fun H1 s1=>?_⟩
  cases hrow:rowOf H v with
  | none=>exact⟨false,rfl,iteT ⟨one,no (fun ⟨ns,z,_⟩=>by rw [z] at hrow; cases hrow) _ s1⟩⟩
  | some xs=>
   refine⟨true,rfl,iteF ?_⟩
   obtain⟨a,rfl,hL⟩:=rowOf.lt hrow
   refine⟨_,rfl,a,_,rfl,(hL.same s1).sq,_,rfl,?_⟩
   refine⟨x,dx,_,rfl,s1 _ _ x2,no_kinds,x,ks,ts,fs,rfl,hS.same s1,fun l hl=>?_⟩
   have s2:=s1.trans (same_new hl (.lst (ks.map V.str)))
   refine⟨l,_,rfl,.inl (SqL.of upd_same),rfl,_,rfl,?_⟩
   by_cases hlen:xs.length=ks.length
   ·refine ifF (by rw [List.length_map,hlen]; simp) ?_
    generalize hG:upd H1 l (.lst (ks.map V.str))=G at s2
    refine(hL.same s2).over rfl fun J O=>O.loop (fun j σ H2=>∃ v,σ=[some (.ref x),some (.ref a),v]∧Same G H2∧∀ y∈xs.take j,okN y) ⟨_,rfl,Same.refl _,fun _ z=>by simp at z⟩ (fun j σ H2 _ ⟨_,_,y,_⟩ o e=>y _ _ e) ?_ ?_
    ·rintro i y σ H2 hi ⟨v,rfl,s3,hn⟩
     have hy:Sh H y:=hin xs hrow y (List.mem_of_getElem? hi)
     have bad:¬ okN y→∀ H',Same H H'→E (.ref N) none H':=fun hb=>no fun ⟨ns,z,o⟩=>hb (by
      rw [hrow] at z; cases z
      exact ok_of o (List.mem_of_getElem? hi))
     have next:okN y→∀ z∈xs.take (i+1),okN z:=fun hb z hz=>by
      rw [List.take_succ,hi] at hz
      rcases List.mem_append.mp hz with h | h
      ·exact hn z h
      ·have e:z=y:=List.mem_singleton.mp h
       rw [e]; exact hb
     refine⟨_,rfl,y,rfl,hy.same (s2.trans s3),?_⟩
     cases y with
     | int n=>
      refine⟨true,rfl,iteF ?_⟩
      refine⟨_,rfl,_,_,rfl,rfl,_,rfl,?_⟩
      by_cases h1:1≤n
      ·refine ifT (decide_eq_true h1) ?_
       refine⟨_,_,rfl,rfl,_,rfl,?_⟩
       by_cases h4:n≤4
       ·exact ifF (by simp; omega) ⟨_,rfl,s3,next ⟨h1,h4⟩⟩
       ·exact ifT (by simp; omega) ⟨one,bad (fun z=>h4 z.2) _ (s2.trans s3)⟩
      ·exact ifF (by simp; omega) ⟨false,rfl,iteT ⟨one,bad (fun z=>h1 z.1) _ (s2.trans s3)⟩⟩
     | _=>exact⟨false,rfl,iteT ⟨one,bad (fun z=>z) _ (s2.trans s3)⟩⟩
    ·rintro σ H2 ⟨v,rfl,s3,hn⟩
     rw [List.take_length] at hn
     obtain⟨ns,rfl,hk⟩:=nums_of hn
     rw [List.length_map] at hlen
     exact⟨_,rfl,q ⟨ns,hrow,hlen,fun n h=>(hk n h).1,fun n h=>(hk n h).2⟩ _ (s2.trans s3)⟩
   ·refine ifT (by rw [List.length_map]; simp; omega) ⟨one,no (fun ⟨ns,z,o⟩=>hlen ?_) _ s2⟩
    rw [hrow] at z; cases z
    rw [List.length_map]; exact o.len
end
end Few
namespace L2
open PySem PySem.Spec PyProof.Rows
theorem comp2_it {J:It} {wi2:TI} {tc:TT} {te:TE} {σ:St} {H:Hp} {Q:VK} (n:Nat) (Pv:Nat→List V→Hp→Prop) (Vx:Nat→V→Prop) (h0:Pv 0 [] H) (hgo:∀ i ys H,i<n→Pv i ys H→J.go i H∧∀ x H',J.yld i H x H'→H'=H∧Vx i x) (hstop:∀ ys H,Pv n ys H→J.stop n H)
  (hs:∀ i x ys H v1,i<n→Vx i x→Pv i ys H→wi2 (some x::v1::σ) H fun J2 H3=>∃ (k:Nat) (Pw:Nat→List V→Hp→Prop) (Vy:Nat→V→Prop),Pw 0 ys H3∧(∀ j zs H4,Pw j zs H4→zs.length<sizeLine)∧
   (∀ j zs H4,j<k→Pw j zs H4→J2.go j H4∧∀ y H',J2.yld j H4 y H'→H'=H4∧Vy j y)∧(∀ zs H4,Pw k zs H4→J2.stop k H4∧Pv (i+1) zs H4)∧
   (∀ j y zs H4,j<k→Vy j y→Pw j zs H4→tc (some x::some y::σ) H4 fun b H5=>if b=true then te (some x::some y::σ) H5 fun v H6=>Pw (j+1) (zs++[v]) H6 else Pw (j+1) zs H5))
  (hd:∀ ys H,Pv n ys H→∀ D,H D=none→Q (.ref D) (upd H D (.lst ys)))
  (htc:∀ σ H (Q Q':Bool→Hp→Prop),tc σ H Q→(∀ b H',Q b H'→Q' b H')→tc σ H Q') (hwi:∀ σ H (Q Q':It→Hp→Prop),wi2 σ H Q→(∀ b H',Q b H'→Q' b H')→wi2 σ H Q'):CompOk2 2 J (gName 0) wi2 (gName 1) tc te σ H Q:=by
 refine⟨fun i m ys σ' H=>i≤n∧m=n-i∧Pv i ys H∧∃ v0 v1,σ'=v0::v1::σ,⟨n,Nat.zero_le _,rfl,h0,none,none,rfl⟩,?_⟩
 rintro i m ys σ' H1 ⟨hi,rfl,p,v0,v1,rfl⟩
 by_cases hlt:i<n
 ·obtain⟨g1,g2⟩:=hgo i ys H1 hlt p
  refine .inr ⟨g1,fun x H' y=>?_⟩
  obtain⟨rfl,vx⟩:=g2 x H' y
  refine hwi _ _ _ _ (hs i x ys H' v1 hlt vx p) ?_
  rintro J2 H3 ⟨k,Pw,Vy,p0,hz,go2,stop2,step⟩
  refine⟨fun j l zs σ4 H4=>j≤k∧l=k-j∧Pw j zs H4∧∃ v1,σ4=some x::v1::σ,⟨k,Nat.zero_le _,rfl,p0,v1,rfl⟩,?_⟩
  rintro j l zs σ4 H4 ⟨hj,rfl,q,w1,rfl⟩
  refine⟨Nat.le_of_lt (hz j zs H4 q),?_⟩
  by_cases hjk:j<k
  ·obtain⟨a1,a2⟩:=go2 j zs H4 hjk q
   refine .inr ⟨a1,hz j zs H4 q,fun y H' yl=>?_⟩
   obtain⟨rfl,vy⟩:=a2 y H' yl
   refine htc _ _ _ _ (step j y zs H' hjk vy q) ?_
   intro b H5 hb
   cases b with
   | true=>
    rw [if_pos rfl] at hb ⊢
    exact⟨_,hb,fun v H7 e=>⟨k - (j+1),by omega,hjk,rfl,e,_,rfl⟩⟩
   | false=>
    rw [if_neg Bool.false_ne_true] at hb ⊢
    exact⟨k - (j+1),by omega,hjk,rfl,hb,_,rfl⟩
  ·have e:j=k:=by omega
   subst e
   obtain⟨s1,s2⟩:=stop2 zs H4 q
   exact .inl ⟨s1,n - (i+1),by omega,hlt,rfl,s2,_,_,rfl⟩
 ·have e:i=n:=by omega
  subst e
  exact .inl ⟨hstop ys H1 p,hd ys H1 p⟩
theorem yes_of {σ:St} {H:Hp} {Q:Bool→Hp→Prop} (h:Q true H):tYes σ H Q:=h
theorem yes_mono:∀ σ H (Q Q':Bool→Hp→Prop),tYes σ H Q→(∀ b H',Q b H'→Q' b H')→tYes σ H Q':=fun _ _ _ _ h k=>k _ _ h
end L2
namespace Few
open PySem L2
theorem upN_length (n:Nat):(upN n).length=n:=by unfold upN; simp
theorem upN_get {n j:Nat} (h:j<n):(upN n)[j]? = some (j:Int):=by unfold upN; rw [List.getElem?_map,List.getElem?_range h]; rfl
def ext1 (n:Nat) (r:List Int):List (List Int):=((upN n).filter fun t=>!r.contains t).map fun t=>r++[t]
def ordK (n:Nat):Nat→List (List Int)
 | 0=>[[]]
 | k+1=>(ordK n k).flatMap (ext1 n)
def ordN (n:Nat):List (List Int):=ordK n n
theorem ordK_len {n:Nat}:∀ {k:Nat} {r:List Int},r∈ordK n k→r.length=k
 | 0,r,h=>by rw [List.mem_singleton.mp h]; rfl
 | k+1,r,h=>by
  obtain⟨q,hq,hr⟩:=List.mem_flatMap.mp h
  obtain⟨t,_,rfl⟩:=List.mem_map.mp hr
  rw [List.length_append,ordK_len hq]; rfl
theorem ordK_small:∀ {n k:Nat},n≤4→k≤4→(ordK n k).length≤24:=by
 have h:∀ n:Fin 5,∀ k:Fin 5,(ordK n.1 k.1).length≤24:=by decide +kernel
 intro n k hn hk
 exact h ⟨n,by omega⟩ ⟨k,by omega⟩
def fact4:Nat→Nat
 | 0=>1
 | 1=>1
 | 2=>2
 | 3=>6
 | _=>24
theorem ordN_many:∀ {n:Nat},n≤4→(ordN n).length=fact4 n:=by
 have h:∀ n:Fin 5,(ordN n.1).length=fact4 n.1:=by decide +kernel
 intro n hn
 exact h ⟨n,by omega⟩
abbrev RowsIn (H:Hp):List Addr→List (List Int)→Prop:=Paired fun a r=>H a=some (.tup (r.map V.int))
theorem RowsIn.same {H H':Hp} (s:Same H H') {as:List Addr} {rs:List (List Int)} (h:RowsIn H as rs):RowsIn H' as rs:=Paired.mapP h fun a r e=>s a _ e
theorem Paired.app {α β:Type} {F:α→β→Prop}:∀ {a c:List α} {b d:List β},Paired F a b→Paired F c d→Paired F (a++c) (b++d)
 | _,_,_,_,.nil,h=>h
 | _,_,_,_,.cons x r,h=>.cons x (Paired.app r h)
theorem Paired.at {α β:Type} {F:α→β→Prop}:∀ {a:List α} {b:List β} {i:Nat} {x:α},Paired F a b→a[i]? = some x→∃ y,b[i]? = some y∧F x y
 | _,_,0,_,.cons h _,e=>by cases e; exact⟨_,rfl,h⟩
 | _,_,i+1,_,.cons _ r,e=>Paired.at (i:=i) r e
 | _,_,_,_,.nil,e=>by cases e
theorem inV_int (t:Int) (r:List Int):inV (.int t) (r.map V.int)=r.contains t:=by
 unfold inV
 induction r with
 | nil=>rfl
 | cons x r ih=>
  rw [List.map_cons,List.any_cons,ih,List.contains_cons]
  congr 1
  show eqV (.int x) (.int t)=(t==x)
  by_cases h:x=t
  ·subst h; simp [eqV]
  ·have h2:¬ t=x:=fun z=>h z.symm
   simp only [eqV]
   rw [beq_eq_false_iff_ne.mpr h,beq_eq_false_iff_ne.mpr h2]
theorem flat_ints (r:List Int):(r.map V.int).all flatV=true:=by
 rw [List.all_eq_true]; rintro x hx
 obtain⟨t,_,rfl⟩:=List.mem_map.mp hx
 rfl
theorem zie:LD "naming":=by decide +kernel
theorem zif:LS "naming":=by decide +kernel
theorem zig:LD "order":=by decide +kernel
theorem zih:LS "order":=by decide +kernel
theorem zii:LD "row":=by decide +kernel
theorem zij:LS "row":=by decide +kernel
theorem zik:LD "rows":=by decide +kernel
theorem zil:LS "rows":=by decide +kernel
section
variable {P:Program} {w:World} {K:PySem.W.Frag} {mg:Str→Option Value} {base:Heap}
abbrev s_orders:Stmt:=top 25
theorem zim:FnScope ["number","rows","place"] ["number"] (defScope s_orders):=⟨rfl,rfl,rfl,by decide +kernel,rfl,by decide +kernel,by decide +kernel⟩
theorem zin:LN .cell s_orders "number":=by decide +kernel
theorem zio:LN .local s_orders "place":=by decide +kernel
theorem ziq:LN .globalImplicit s_orders "range":=by decide +kernel
theorem zir:LN .local s_orders "rows":=by decide +kernel
abbrev QS7:Scope:={kind:=PySem.ScopeKind.function,names:=[ (PySem.Str.ofString ".0",PySem.NameKind.local),(PySem.Str.ofString "row",PySem.NameKind.local),(PySem.Str.ofString "thing",PySem.NameKind.local),(PySem.Str.ofString "range",PySem.NameKind.globalImplicit),(PySem.Str.ofString "number",PySem.NameKind.free)],isGenerator:=false,isCoroutine:=false,more:=[]:PySem.Scope}
theorem zis:CompSc 2 ["row","thing","number","rows","place"] ["number","rows","place"] (defScope s_orders) QS7:=⟨rfl,by decide +kernel,by decide +kernel,by decide +kernel,by decide +kernel,rfl,by decide +kernel⟩
theorem zit:LC .free QS7 "number":=by decide +kernel
theorem ziu:LC .globalImplicit QS7 "range":=by decide +kernel
theorem ziv:LC .local QS7 "row":=by decide +kernel
theorem ziw:LC .local QS7 "thing":=by decide +kernel
def spOrders:Sp:=fun vs H Q _=>∃ n:Nat,vs=[.int n]∧n≤4∧∀ l as H',H l=none→H' l=some (.lst (as.map V.ref))→RowsIn H' as (ordN n)→Same H H'→Q (.ref l) H'
theorem ok_orders (F:FunAt K mg "orders" s_orders ["number"]) (Z:Bl mg):Def P w K mg base "orders" 1 ["number"] spOrders:=by
 have SC:=zim
 refine F.mk' (k:=0) zim (fun vs H Q E h=>?_) (fun f cdv A outer s H vs Q E hr h=>?_)
 ·obtain⟨n,rfl,_⟩:=h
  rfl
 ·obtain⟨n,rfl,h4,q⟩:=h
  refine'⟨_,?derivation,?_⟩
  case derivation=>refine' pss_cons ?Aa ?Ba;(case Aa=>refine' ps_set (i:=1) (x:=Str.ofString "rows") ?Ca ?Da ?Ea ?Fa ?Ga ?Ha;(case Ca=>exact SC.nd);(case Da=>exact rfl);(case Ea=>exact(Or.inl zir));(case Fa=>refine' pe_lst ?Ia;case Ia=>refine' pa_cons ?Ja pa_nil ?Ka;(case Ja=>refine' pe_tup pa_nil);case Ka=>rfl);(case Ga=>rfl);case Ha=>exact .inl rfl);case Ba=>refine' pss_cons ?La ?Ma;(case La=>refine' ps_for PassesOwn.never rfl ?Na ?Oa ?Pa ?Qa;(case Na=>refine' pi_range1 ziq Z.n_range ?Ra rfl;case Ra=>refine' pa_cons (pq 0 (visC zin) zhu zhv) pa_nil ?Sa;case Sa=>rfl);(case Oa=>refine' pg_name (i:=2) (x:=Str.ofString "place") SC.nd rfl (Or.inl zio) (.inl rfl));(case Pa=>refine' pss_one ?Ta;case Ta=>refine' ps_setComp2 (i:=1) (x:=Str.ofString "rows") SC.nd rfl (Or.inl zir) rfl noxe rfl zis.at ?Ua ?Va ?Wa ?Xa ?Ya ?Za ?Ab ?Bb (.inl rfl);(case Ua=>refine' pi_list (pq 1 (visL zir) zik zil));(case Va=>intro _ _ _ _ _;refine' pg_name (i:=0) zis.nd rfl (locO ziv) (.inr (lookup_relabel_local ziv)));(case Wa=>intro _ _ _ _ _;refine' pi_range1 (glO ziu) Z.n_range ?Cb rfl;case Cb=>refine' pa_cons (pq 2 (visF zit) zhu zhv) pa_nil ?Db;case Db=>rfl);(case Xa=>intro _ _ _ _ _;refine' pg_name (i:=1) zis.nd rfl (locO ziw) (.inr (lookup_relabel_local ziw)));(case Ya=>intro _ _ _ _ _;refine' pts_one ?Eb;case Eb=>refine' pt_cmpR op_notIn_seq (pq 1 (visO ziw) zep zeq) (pq 0 (visO ziv) zii zij) (by with_unfolding_all rfl));(case Za=>intro _ _ _ _ _;refine' pe_op op_catTT (pq 0 (visO ziv) zii zij) ?Fb;case Fb=>refine' pe_tup ?Gb;case Gb=>refine' pa_cons (pq 1 (visO ziw) zep zeq) pa_nil ?Hb;case Hb=>rfl);(case Ab=>intro _; rfl);case Bb=>intro _ _ _ _ _ _; rfl);case Qa=>intro _; rfl);case Ma=>refine' pss_one ?Ib;case Ib=>refine' ps_ret (pq 1 (visL zir) zik zil)
  refine⟨by show 0≤sizeLine; decide,fun t ht=>⟨by show 1≤sizeLine; decide,fun l0 hl0=>?_⟩⟩
  have s1:Same H (upd (upd H t (.tup [])) l0 (.lst [.ref t])):=(same_new ht _).trans (same_new hl0 _)
  have et:(upd (upd H t (.tup [])) l0 (.lst [.ref t])) t=some (.tup []):=same_new hl0 _ _ _ upd_same
  have el:(upd (upd H t (.tup [])) l0 (.lst [.ref t])) l0=some (.lst [.ref t]):=upd_same
  have fl:H l0=none:=(same_new ht (.tup [])).free hl0
  generalize (upd (upd H t (.tup [])) l0 (.lst [.ref t]))=G at s1 et el
  refine⟨_,rfl,n,rfl,by omega,by omega,for_range (n:=(n:Int).toNat) (fun i σ H2=>∃ (l:Addr) (as:List Addr) (v2:Option V),σ=[some (.int n),some (.ref l),v2]∧Same H H2∧H l=none∧H2 l=some (.lst (as.map V.ref))∧RowsIn H2 as (ordK n i))
   ⟨l0,[t],none,rfl,s1,fl,el,.cons et .nil⟩ ?_ ?_⟩
  ·rintro i σ H2 hi ⟨l,as,v2,rfl,s2,hl,el,hr2⟩
   rw [Int.toNat_natCast] at hi
   have rsl:(ordK n i).length≤24:=ordK_small h4 (by omega)
   have rlen:∀ r∈ordK n i,r.length=i:=fun r hr=>ordK_len hr
   have enx:ordK n (i+1)=(ordK n i).flatMap (ext1 n):=rfl
   generalize ordK n i=rs at rsl rlen enx hr2
   have asl:as.length=rs.length:=Paired.length hr2
   refine⟨_,rfl,l,rfl,⟨_,SqL.of el⟩,fun cl C ex s0 Hc=>comp2_it as.length (fun i' ys H3=>∃ bs:List Addr,ys=bs.map V.ref∧Same H2 H3∧RowsIn H3 bs ((rs.take i').flatMap (ext1 n))) (fun i' x=>(as.map V.ref)[i']? = some x) ⟨[],rfl,Same.refl _,.nil⟩
    (fun i' ys H3 hi' ⟨_,_,s3,_⟩=>go_list (SqL.of (s3 _ _ el)) (by rw [List.length_map]; exact hi')) (fun ys H3 ⟨_,_,s3,_⟩=>by have:=stop_list (K:=K) (SqL.of (K:=K) (s3 _ _ el)); rw [List.length_map] at this; exact this) ?_ ?_ ?_ ?_⟩
   ·rintro i' x ys H3 v1 hi' hx ⟨bs,rfl,s3,r3⟩
    rw [List.getElem?_map] at hx
    obtain⟨ra,hra,rfl⟩:=Option.map_eq_some_iff.mp hx
    obtain⟨r,hr',er⟩:=Paired.at hr2 hra
    have rl:=rlen r (List.mem_of_getElem? hr')
    have bsl:bs.length≤96:=by
     rw [Paired.length r3]
     have : ∀ l:List (List Int),(l.flatMap (ext1 n)).length≤l.length*4:=fun l=>by
      induction l with
      | nil=>exact Nat.le_refl _
      | cons x r ih=>
       rw [List.flatMap_cons,List.length_append,List.length_cons]
       have h2:(ext1 n x).length≤4:=by
        unfold ext1
        rw [List.length_map]
        exact Nat.le_trans (List.length_filter_le _ _) (by rw [upN_length]; exact h4)
       omega
     refine Nat.le_trans (this _) ?_
     rw [List.length_take]
     omega
    have esucc:(rs.take (i'+1)).flatMap (ext1 n)=(rs.take i').flatMap (ext1 n)++ext1 n r:=by
     rw [List.take_succ,hr',List.flatMap_append]
     simp
    refine⟨_,rfl,n,rfl,by omega,by omega,?_⟩
    refine⟨n,fun j zs H4=>∃ cs:List Addr,zs=cs.map V.ref∧Same H2 H4∧j≤n∧RowsIn H4 cs ((rs.take i').flatMap (ext1 n)++(((upN n).take j).filter fun t=>!r.contains t).map fun t=>r++[t]),fun j y=>y=.int (0+(j:Int)),⟨bs,rfl,s3,Nat.zero_le _,by simpa using r3⟩,?_,?_,?_,?_⟩
    ·rintro j zs H4 ⟨cs,rfl,s4,hj,r4⟩
     have e:=Paired.length r4
     have e3:=Paired.length r3
     have e5:=List.length_filter_le (fun t=>!r.contains t) ((upN n).take j)
     rw [List.length_take] at e5
     rw [List.length_append,List.length_map] at e
     rw [List.length_map]
     exact Nat.lt_of_le_of_lt (show cs.length≤200 by omega) (by decide)
    ·rintro j zs H4 hj _
     exact go_rng (lo:=0) (n:=(n:Int).toNat) (by omega)
    ·rintro zs H4 ⟨cs,rfl,s4,_,r4⟩
     refine⟨by have:=stop_rng (lo:=0) (n:=(n:Int).toNat) (H:=H4); rwa [Int.toNat_natCast] at this ⊢,cs,rfl,s4,?_⟩
     rw [esucc]
     rw [List.take_of_length_le (l:=upN n) (by rw [upN_length]; exact Nat.le_refl _)] at r4
     exact r4
    ·rintro j y zs H4 hj rfl ⟨cs,rfl,s4,_,r4⟩
     have eN:(upN n).take (j+1)=(upN n).take j++[(j:Int)]:=by
      rw [List.take_succ,upN_get hj]; rfl
     refine⟨_,rfl,_,rfl,ra,_,rfl,.inr (SqT.of (s4 _ _ er)),rfl,flat_ints r,_,rfl,?_⟩
     show if (!inV (.int (0+(j:Int))) (r.map V.int))=true then _ else _
     rw [inV_int,Int.zero_add]
     by_cases hc:r.contains (j:Int)=true
     ·rw [hc]
      refine ifF (by decide) ⟨cs,rfl,s4,hj,?_⟩
      rw [eN,List.filter_append]
      simp only [List.filter_cons,hc]
      simpa using r4
     ·have hc:r.contains (j:Int)=false:=by simpa using hc
      rw [hc]
      refine ifT rfl ?_
      refine⟨_,rfl,_,rfl,by show 1≤sizeLine; decide,fun p hp=>?_⟩
      have s5:=same_new hp (.tup [V.int (j:Int)])
      refine cat_of (s5 _ _ (s4 _ _ er)) upd_same (Nat.le_trans (show _≤100 from ?_) (by decide)) fun p2 H6 hp2 s6=>⟨cs++[p2],by simp,s4.trans (s5.trans s6),hj,?_⟩
      ·rw [List.length_map,rl]
       show i+1≤100
       omega
      ·rw [eN,List.filter_append]
       simp only [List.filter_cons,hc]
       rw [List.map_append,← List.append_assoc]
       refine Paired.app (RowsIn.same (s5.trans s6) r4) (.cons ?_ .nil)
       rw [hp2,List.map_append]
       simp
   ·rintro ys H3 ⟨bs,rfl,s3,r3⟩ D hD
    refine⟨D,bs,_,rfl,(s2.trans s3).trans (same_new hD _),(s2.trans s3).free hD,upd_same,?_⟩
    rw [asl,List.take_length,← enx] at r3
    exact RowsIn.same (same_new hD _) r3
   ·rintro σ H Q Q' ⟨v,h1,u,h2,p,xs,e1,e2,e3,e4,c,e5,hq⟩ k
    exact⟨v,h1,u,h2,p,xs,e1,e2,e3,e4,c,e5,k _ _ hq⟩
   ·rintro σ H Q Q' ⟨v,h1,j,e1,e2,e3,hq⟩ k
    exact⟨v,h1,j,e1,e2,e3,k _ _ hq⟩
  ·rintro σ H2 ⟨l,as,v2,rfl,s2,hl,el,hr2⟩
   rw [Int.toNat_natCast] at hr2
   exact⟨_,rfl,q l as H2 hl el hr2 s2⟩
abbrev LstsIn (H:Hp):List Addr→List (List Int)→Prop:=Paired fun a r=>H a=some (.lst (r.map V.int))
abbrev s_as_lists:Stmt:=top 23
theorem zix:FnScope ["naming"] ["naming"] (defScope s_as_lists):=⟨rfl,rfl,rfl,by decide +kernel,rfl,by decide +kernel,by decide +kernel⟩
theorem ziy:LN .local s_as_lists "naming":=by decide +kernel
abbrev QS8:Scope:={kind:=PySem.ScopeKind.function,names:=[ (PySem.Str.ofString ".0",PySem.NameKind.local),(PySem.Str.ofString "order",PySem.NameKind.local),(PySem.Str.ofString "list",PySem.NameKind.globalImplicit)],isGenerator:=false,isCoroutine:=false,more:=[]:PySem.Scope}
theorem ziz:CompSc 1 ["order","naming"] ["naming"] (defScope s_as_lists) QS8:=⟨rfl,by decide +kernel,by decide +kernel,by decide +kernel,by decide +kernel,rfl,by decide +kernel⟩
theorem zi0:LC .globalImplicit QS8 "list":=by decide +kernel
theorem zi1:LC .local QS8 "order":=by decide +kernel
def spAsL:Sp:=fun vs H Q _=>∃ (a:Addr) (os:List Addr) (nm:List (List Int)),vs=[.ref a]∧H a=some (.tup (os.map V.ref))∧RowsIn H os nm∧nm.length≤4∧
 ∀ l ls H',H l=none→H' l=some (.lst (ls.map V.ref))→LstsIn H' ls nm→(∀ x∈ls,H x=none∧x≠l)→ls.Nodup→Same H H'→Q (.ref l) H'
theorem ok_asl (F:FunAt K mg "as_lists" s_as_lists ["naming"]) (Z:Bl mg):Def P w K mg base "as_lists" 1 ["naming"] spAsL:=by
 have SC:=zix
 refine F.mk' (k:=0) zix (fun vs H Q E h=>?_) (fun f cdv A outer s H vs Q E hr h=>?_)
 ·obtain⟨a,os,nm,rfl,_⟩:=h
  rfl
 ·obtain⟨a,os,nm,rfl,ha,ho,h4,q⟩:=h
  have osl:os.length=nm.length:=Paired.length ho
  refine'⟨_,?derivation,?_⟩
  case derivation=>refine' pss_one ?Aa;case Aa=>refine' ps_ret ?Ba;case Ba=>refine' pe_comp noxe rfl ziz.at ?Ca ?Da ?Ea ?Fa;(case Ca=>refine' pi_tup (pq 0 (visL ziy) zie zif));(case Da=>intro _ _ _ _ _;refine' pg_name (i:=0) ziz.nd rfl (locO zi1) (.inr (lookup_relabel_local zi1)));(case Ea=>intro _ _ _ _ _;refine' pe_callTy (hn:=zby) (hdb:=zbx) ?Ga (glO zi0) Z.n_list bt_list ?Ha rfl rfl;(case Ga=>exact call_list_of);case Ha=>refine' pa_cons (pq 0 (visO zi1) zig zih) pa_nil ?Ia;case Ia=>rfl);case Fa=>intro _; rfl
  refine⟨_,rfl,a,rfl,⟨_,SqT.of ha⟩,fun cl C ex s0 H0=>?_⟩
  refine comp_it1 os.length (fun i ys H1=>∃ ls:List Addr,ys=ls.map V.ref∧Same H H1∧LstsIn H1 ls (nm.take i)∧(∀ x∈ls,H x=none)∧ls.Nodup) (fun i x=>(os.map V.ref)[i]? = some x) ⟨[],rfl,Same.refl _,.nil,fun _ z=>(nomatch z),List.nodup_nil⟩ (Nat.le_trans (show os.length≤4 by omega) (by decide))
   (fun i ys H1 hi _ ⟨_,_,s1,_⟩=>go_tup (SqT.of (s1 _ _ ha)) (by rw [List.length_map]; exact hi)) (fun ys H1 _ ⟨_,_,s1,_⟩=>by have:=stop_tup (K:=K) (SqT.of (K:=K) (s1 _ _ ha)); rw [List.length_map] at this; exact this) ?_ ?_
  ·rintro i x ys H1 hi hx hy ⟨ls,rfl,s1,r1,fr,nd⟩
   rw [List.getElem?_map] at hx
   obtain⟨o,ho1,rfl⟩:=Option.map_eq_some_iff.mp hx
   obtain⟨r,hr1,er⟩:=Paired.at ho ho1
   refine⟨_,rfl,o,_,rfl,.inr (SqT.of (s1 _ _ er)),fun l hl=>⟨ls++[l],by simp,s1.trans (same_new hl _),?_,?_,?_⟩⟩
   ·rw [List.take_succ,hr1]
    exact Paired.app (Paired.mapP r1 fun b q e=>same_new hl _ _ _ e) (.cons upd_same .nil)
   ·intro x hx
    rcases List.mem_append.mp hx with h | h
    ·exact fr x h
    ·rw [List.mem_singleton.mp h]; exact s1.free hl
   ·refine List.nodup_append.mpr ⟨nd,by simp,fun x hx y hy=>?_⟩
    rw [List.mem_singleton.mp hy]
    rintro rfl
    obtain⟨i,hi⟩:=List.getElem?_of_mem hx
    obtain⟨r',_,e⟩:=Paired.at r1 hi
    rw [hl] at e; cases e
  ·rintro ys H1 hy ⟨ls,rfl,s1,r1,fr,nd⟩ D hD
   rw [osl,List.take_length] at r1
   refine q D ls _ (s1.free hD) upd_same (Paired.mapP r1 fun b r e=>same_new hD _ _ _ e) (fun x hx=>⟨fr x hx,?_⟩) nd (s1.trans (same_new hD _))
   rintro rfl
   obtain⟨i,hi⟩:=List.getElem?_of_mem hx
   obtain⟨r',_,e⟩:=Paired.at r1 hi
   rw [hD] at e; cases e
end
end Few
namespace L2
open PySem PySem.Spec PyProof.Rows
theorem ps_lift {X:Cx} {E':Value→Shared→Prop} {st:Stmt} {t:TS} (h:PS X.nox st t):PS (X.wish E') st t:=fun pins s σ H D I hw=>
 wpAny_mono (h pins s σ H D (I.unwish.wish _) hw) (fun f s' z=>by
  cases f with
  | next=>obtain⟨σ',H',J,q⟩:=z; exact⟨σ',H',J.unwish.wish _,q⟩
  | brk=>obtain⟨σ',H',J,q⟩:=z; exact⟨σ',H',J.unwish.wish _,q⟩
  | cont=>obtain⟨σ',H',J,q⟩:=z; exact⟨σ',H',J.unwish.wish _,q⟩
  | ret u=>obtain⟨v,σ',H',J,r,q⟩:=z; exact⟨v,σ',H',J.unwish.wish _,r,q⟩) fun _ _ z=>False.elim z
end L2
namespace Few
open PySem L2
def growN (n:Nat) (rows:List (List (List Int))):List (List (List Int)):=rows.flatMap fun r=>(ordN n).map fun o=>r++[o]
def allN (ns:List Nat):List (List (List Int)):=ns.foldl (fun rows n=>growN n rows) [[]]
def prodN (ns:List Nat):Nat:=ns.foldl (fun a n=>a*fact4 n) 1
theorem allN_snoc (ns:List Nat) (n:Nat):allN (ns++[n])=growN n (allN ns):=by unfold allN; rw [List.foldl_append]; rfl
theorem prodN_snoc (ns:List Nat) (n:Nat):prodN (ns++[n])=prodN ns*fact4 n:=by unfold prodN; rw [List.foldl_append]; rfl
theorem growN_length {n:Nat} (h:n≤4) (rows:List (List (List Int))):(growN n rows).length=rows.length*fact4 n:=by
 unfold growN
 induction rows with
 | nil=>simp
 | cons r rs ih=>rw [List.flatMap_cons,List.length_append,ih,List.length_map,ordN_many h,List.length_cons,Nat.add_mul,Nat.one_mul,Nat.add_comm]
theorem fact4_le (n:Nat):1≤fact4 n∧fact4 n≤24:=by unfold fact4; split <;> omega
theorem snocInd {α:Type} {Pv:List α→Prop} (h0:Pv []) (hs:∀ l x,Pv l→Pv (l++[x])):∀ l,Pv l:=by
 intro l
 have : ∀ r:List α,Pv r.reverse:=by
  intro r
  induction r with
  | nil=>exact h0
  | cons x r ih=>rw [List.reverse_cons]; exact hs _ _ ih
 have h:=this l.reverse
 rwa [List.reverse_reverse] at h
theorem allN_length {ns:List Nat} (h:∀ n∈ns,n≤4):(allN ns).length=prodN ns:=by
 revert h
 refine snocInd (Pv:=fun ns=>(∀ n∈ns,n≤4)→(allN ns).length=prodN ns) (fun _=>rfl) (fun l x ih h=>?_) ns
 rw [allN_snoc,prodN_snoc,growN_length (h x (by simp)),ih fun n hn=>h n (by simp [hn])]
theorem allN_len {ns:List Nat} {r:List (List Int)}:r∈allN ns→r.length=ns.length:=by
 revert r
 refine snocInd (Pv:=fun ns=>∀ {r:List (List Int)},r∈allN ns→r.length=ns.length) (fun {r} h=>?_) (fun l x ih {r} h=>?_) ns
 ·rw [List.mem_singleton.mp h]; rfl
 ·rw [allN_snoc] at h
  obtain⟨q,hq,hr⟩:=List.mem_flatMap.mp h
  obtain⟨t,_,rfl⟩:=List.mem_map.mp hr
  rw [List.length_append,List.length_append,ih hq]; rfl
theorem prodN_pos (ns:List Nat):1≤prodN ns:=by
 refine snocInd (Pv:=fun ns=>1≤prodN ns) (Nat.le_refl _) (fun l x ih=>?_) ns
 rw [prodN_snoc]; exact Nat.mul_le_mul ih (fact4_le x).1
theorem prodN_take (ns:List Nat) (i:Nat):prodN (ns.take i)≤prodN ns:=by
 refine snocInd (Pv:=fun ns=>prodN (ns.take i)≤prodN ns) (by simp) (fun l x ih=>?_) ns
 by_cases h:i≤l.length
 ·rw [List.take_append_of_le_length h,prodN_snoc]
  exact Nat.le_trans ih (Nat.le_mul_of_pos_right _ (fact4_le x).1)
 ·rw [List.take_of_length_le (by rw [List.length_append]; simp; omega)]
  exact Nat.le_refl _
theorem prodN_le (ns:List Nat):prodN ns≤24 ^ ns.length:=by
 refine snocInd (Pv:=fun ns=>prodN ns≤24 ^ ns.length) (Nat.le_refl _) (fun l x ih=>?_) ns
 rw [prodN_snoc,List.length_append]
 exact Nat.mul_le_mul ih (fact4_le x).2
theorem iSeq_call {K:PySem.W.Frag} {te:TE} {σ:St} {H:Hp} {R:It→Hp→Prop} {a:Addr} {xs:List V} (h:LT H a xs) (hc:∀ Q:VK,(∀ H1,Same H H1→Q (.ref a) H1)→te σ H Q) (k:∀ J H1,Same H H1→Over H1 a xs J→R J H1):iSeq K te σ H R:=by
 rcases h with e | e
 ·exact .inl (hc _ fun H1 s1=>⟨a,rfl,⟨_,SqL.of (s1 _ _ e)⟩,k _ H1 s1 ⟨fun i H' kp hi=>go_list (SqL.of (kp _ (s1 _ _ e))) hi,fun H' kp=>stop_list (SqL.of (kp _ (s1 _ _ e)))⟩⟩)
 ·exact .inr (hc _ fun H1 s1=>⟨a,rfl,⟨_,SqT.of (s1 _ _ e)⟩,k _ H1 s1 ⟨fun i H' kp hi=>go_tup (SqT.of (kp _ (s1 _ _ e))) hi,fun H' kp=>stop_tup (SqT.of (kp _ (s1 _ _ e)))⟩⟩)
abbrev FoundIn (H:Hp):List Addr→List Nat→Prop:=Paired fun l n=>∃ as,H l=some (.lst (as.map V.ref))∧RowsIn H as (ordN n)
abbrev NamsIn (H:Hp):List Addr→List (List (List Int))→Prop:=Paired fun t nm=>∃ os,H t=some (.tup (os.map V.ref))∧RowsIn H os nm
theorem FoundIn.same {H H':Hp} (s:Same H H') {as:List Addr} {rs:List Nat} (h:FoundIn H as rs):FoundIn H' as rs:=Paired.mapP h fun a r ⟨os,e,q⟩=>⟨os,s a _ e,q.same s⟩
theorem NamsIn.same {H H':Hp} (s:Same H H') {as:List Addr} {rs:List (List (List Int))} (h:NamsIn H as rs):NamsIn H' as rs:=Paired.mapP h fun a r ⟨os,e,q⟩=>⟨os,s a _ e,q.same s⟩
theorem zi2:LD "MOST_NAMINGS":=by decide +kernel
theorem zi3:LD "TooMany":=by decide +kernel
theorem zi4:LD "checked_size":=by decide +kernel
theorem zi5:LD "found":=by decide +kernel
theorem zi6:LS "found":=by decide +kernel
theorem zi7:LD "many":=by decide +kernel
theorem zi8:LS "many":=by decide +kernel
theorem zi9:LD "orders":=by decide +kernel
theorem zja:LD "orders_of_kinds":=by decide +kernel
theorem zjb:LS "orders_of_kinds":=by decide +kernel
section
variable {P:Program} {w:World} {K:PySem.W.Frag} {mg:Str→Option Value} {base:Heap}
def spTM (C:Addr):Sp:=fun vs H Q _=>∃ (a:Addr) (v:V),vs=[.ref a,v]∧H a=some (ExcN C a)∧∀ dx,H dx=none→dx≠a→Q .non (upd (upd H dx (.xd [("many",v)])) a (ExcD C a dx))
abbrev s_all_namings:Stmt:=top 24
theorem zjc:FnScope ["signs","size","orders_of_kinds","many","found","rows"] ["signs","size"] (defScope s_all_namings):=⟨rfl,rfl,rfl,by decide +kernel,rfl,by decide +kernel,by decide +kernel⟩
theorem zjd:LN .globalImplicit s_all_namings "MOST_NAMINGS":=by decide +kernel
theorem zje:LN .globalImplicit s_all_namings "TooMany":=by decide +kernel
theorem zjf:LN .globalImplicit s_all_namings "checked_size":=by decide +kernel
theorem zjg:LN .cell s_all_namings "found":=by decide +kernel
theorem zjh:LN .globalImplicit s_all_namings "len":=by decide +kernel
theorem zji:LN .local s_all_namings "many":=by decide +kernel
theorem zjj:LN .local s_all_namings "orders_of_kinds":=by decide +kernel
theorem zjk:LN .local s_all_namings "rows":=by decide +kernel
theorem zjl:LN .local s_all_namings "signs":=by decide +kernel
theorem zjm:LN .local s_all_namings "size":=by decide +kernel
abbrev QS9:Scope:={kind:=PySem.ScopeKind.function,names:=[ (PySem.Str.ofString ".0",PySem.NameKind.local),(PySem.Str.ofString "row",PySem.NameKind.local),(PySem.Str.ofString "order",PySem.NameKind.local),(PySem.Str.ofString "found",PySem.NameKind.free)],isGenerator:=false,isCoroutine:=false,more:=[]:PySem.Scope}
theorem zjn:CompSc 2 ["row","order","signs","size","orders_of_kinds","many","found","rows"] ["signs","size","orders_of_kinds","many","found","rows"] (defScope s_all_namings) QS9:=⟨rfl,by decide +kernel,by decide +kernel,by decide +kernel,by decide +kernel,rfl,by decide +kernel⟩
theorem zjo:LC .free QS9 "found":=by decide +kernel
theorem zjp:LC .local QS9 "order":=by decide +kernel
theorem zjq:LC .local QS9 "row":=by decide +kernel
abbrev QS10:Scope:={kind:=PySem.ScopeKind.function,names:=[ (PySem.Str.ofString ".0",PySem.NameKind.local),(PySem.Str.ofString "number",PySem.NameKind.local),(PySem.Str.ofString "orders",PySem.NameKind.globalImplicit)],isGenerator:=false,isCoroutine:=false,more:=[]:PySem.Scope}
theorem zjr:CompSc 1 ["number","signs","size","orders_of_kinds","many","found","rows"] ["signs","size","orders_of_kinds","many","found","rows"] (defScope s_all_namings) QS10:=⟨rfl,by decide +kernel,by decide +kernel,by decide +kernel,by decide +kernel,rfl,by decide +kernel⟩
theorem zjs:LC .local QS10 "number":=by decide +kernel
theorem zjt:LC .globalImplicit QS10 "orders":=by decide +kernel
def spAll (C N M:Addr):Sp:=fun vs H Q E=>∃ (x:Addr) (v:V) (ks:List Str) (ts:List TieR) (fs:List FunR),vs=[.ref x,v]∧SignsAt C H x ks ts fs∧ks.length≤4∧Sh H v∧(∀ xs,rowOf H v=some xs→∀ y∈xs,Sh H y)∧
 (∀ ns:List Nat,rowOf H v=some (ns.map iV)→SizeOk ks ns→prodN ns≤576→∀ l ts H',H' l=some (.lst (ts.map V.ref))→NamsIn H' ts (allN ns)→Same H H'→Q (.ref l) H')∧
 (∀ ns:List Nat,rowOf H v=some (ns.map iV)→SizeOk ks ns→576<prodN ns→∀ dx H',Same H H'→H' dx=some (.xd [("many",.int (prodN ns:Nat))])→E (.ref M) (some dx) H')∧
 (¬ Good H ks v→∀ H',Same H H'→E (.ref N) none H')
theorem ok_all {C N M fM:Addr} {fdM:FuncData} (F:FunAt K mg "all_namings" s_all_namings ["signs","size"]) (Z:Bl mg) (GM:∃ u,mg "MOST_NAMINGS"=some u∧RelV (.int 576) u)
  (D_checked_size:DefE P w K mg base "checked_size" 2 ["signs","size"] (spSizeE C N)) (D_orders:Def P w K mg base "orders" 1 ["number"] spOrders)
  (O_TooMany:ExcClsI K mg "TooMany" M fM) (F_TooMany:FnOk P w K mg base CX0 1 fM fdM ["self","many"] (spTM M)) (b_TooMany:Binds K fdM ["self","many"] []):DefE P w K mg base "all_namings" 3 ["signs","size"] (spAll C N M):=by
 have SC:=zjc
 obtain⟨_,g_MOST_NAMINGS,r_MOST_NAMINGS⟩:=GM
 refine F.mkE (k:=2) zjc (fun vs H Q E h=>?_) (fun f cdv A outer s H vs Q E hr h=>?_)
 ·obtain⟨x,v,ks,ts,fs,rfl,_⟩:=h
  rfl
 ·obtain⟨x,v,ks,ts,fs,rfl,hS,k4,hv,hin,q,many,no⟩:=h
  refine'⟨_,?derivation,?_⟩
  case derivation=>refine' pss_cons ?Aa ?Ba;(case Aa=>refine' ps_setCompE (i:=2) (x:=Str.ofString "orders_of_kinds") SC.nd rfl (Or.inl zjj) rfl framed_of rfl zjr.at ?Ca ?Da ?Ea ?Fa (.inl rfl);(case Ca=>refine' pi_seq ?Ga;case Ga=>refine' pe_defE (hdb:=zi4) framed_of D_checked_size (hr.mono (by decide)) zjf ?Ha rfl rfl;case Ha=>refine' pa_cons (pq 0 (visL zjl) zhw zhx) ?Ia ?Ja;(case Ia=>refine' pa_cons (pq 1 (visL zjm) zhy zhz) pa_nil ?Ka;case Ka=>rfl);case Ja=>rfl);(case Da=>intro _ _ _ _ _;refine' pg_name (i:=0) zjr.nd rfl (locO zjs) (.inr (lookup_relabel_local zjs)));(case Ea=>intro _ _ _ _ _;refine' pe_defN (hdb:=zi9) D_orders (hr.mono (by decide)) (glO zjt) ?La;case La=>refine' pa_cons (pq 0 (visO zjs) zhu zhv) pa_nil ?Ma;case Ma=>rfl);case Fa=>intro _; rfl);case Ba=>refine' pss_cons ?Na ?Oa;(case Na=>refine' ps_set (i:=3) (x:=Str.ofString "many") ?Pa ?Qa ?Ra ?Sa ?Ta ?Ua;(case Pa=>exact SC.nd);(case Qa=>exact rfl);(case Ra=>exact(Or.inl zji));(case Sa=>exact pe_int);(case Ta=>rfl);case Ua=>exact .inl rfl);case Oa=>refine' pss_cons ?Va ?Wa;(case Va=>refine' ps_for passes_xe rfl ?Xa ?Ya ?Za ?Ab;(case Xa=>refine' pi_list (pq 2 (visL zjj) zja zjb));(case Ya=>refine' pg_name (i:=4) (x:=Str.ofString "found") SC.nd rfl (Or.inr zjg) (.inl rfl));(case Za=>refine' pss_one ?Bb;case Bb=>refine' ps_aug (i:=3) (x:=Str.ofString "many") SC.nd rfl (Or.inl zji) ?Cb iop_mul (.inl rfl);case Cb=>refine' pe_callB (hn:=zbw) (hdb:=zbv) call_len_seq zjh Z.n_len bt_len ?Db rfl rfl;case Db=>refine' pa_cons (pq 4 (visC zjg) zi5 zi6) pa_nil ?Eb;case Eb=>rfl);case Ab=>intro _; rfl);case Wa=>refine' pss_cons ?Fb ?Gb;(case Fb=>refine' ps_if ?Hb ?Ib pss_nil;(case Hb=>refine' pt_cmpR op_gt (pq 3 (visL zji) zi7 zi8) ?Jb (nomark _);case Jb=>refine' pe_glob (hd:=zi2) zjd g_MOST_NAMINGS r_MOST_NAMINGS);case Ib=>refine' pss_one ?Kb;case Kb=>refine' ps_raiseI (hdb:=zi3) framed_of rfl O_TooMany F_TooMany b_TooMany (hr.mono (by decide)) zje ?Lb rfl rfl;case Lb=>refine' pa_cons (pq 3 (visL zji) zi7 zi8) pa_nil ?Mb;case Mb=>rfl);case Gb=>refine' pss_cons ?Nb ?Ob;(case Nb=>refine' ps_set (i:=5) (x:=Str.ofString "rows") ?Pb ?Qb ?Rb ?Sb ?Tb ?Ub;(case Pb=>exact SC.nd);(case Qb=>exact rfl);(case Rb=>exact(Or.inl zjk));(case Sb=>refine' pe_lst ?Vb;case Vb=>refine' pa_cons ?Wb pa_nil ?Xb;(case Wb=>refine' pe_tup pa_nil);case Xb=>rfl);(case Tb=>rfl);case Ub=>exact .inl rfl);case Ob=>refine' pss_cons ?Yb ?Zb;(case Yb=>refine' ps_for passes_xe rfl ?Ac ?Bc ?Cc ?Dc;(case Ac=>refine' pi_list (pq 2 (visL zjj) zja zjb));(case Bc=>refine' pg_name (i:=4) (x:=Str.ofString "found") SC.nd rfl (Or.inr zjg) (.inl rfl));(case Cc=>refine' pss_one ?Ec;case Ec=>refine' ps_lift ?Fc;case Fc=>refine' ps_setComp2 (i:=5) (x:=Str.ofString "rows") SC.nd rfl (Or.inl zjk) rfl noxe rfl zjn.at ?Gc ?Hc ?Ic ?Jc ?Kc ?Lc ?Mc ?Nc (.inl rfl);(case Gc=>refine' pi_list (pq 5 (visL zjk) zik zil));(case Hc=>intro _ _ _ _ _;refine' pg_name (i:=0) zjn.nd rfl (locO zjq) (.inr (lookup_relabel_local zjq)));(case Ic=>intro _ _ _ _ _;refine' pi_list (pq 6 (visF zjo) zi5 zi6));(case Jc=>intro _ _ _ _ _;refine' pg_name (i:=1) zjn.nd rfl (locO zjp) (.inr (lookup_relabel_local zjp)));(case Kc=>intro _ _ _ _ _;exact pts_nil);(case Lc=>intro _ _ _ _ _;refine' pe_op op_catTT (pq 0 (visO zjq) zii zij) ?Oc;case Oc=>refine' pe_tup ?Pc;case Pc=>refine' pa_cons (pq 1 (visO zjp) zig zih) pa_nil ?Qc;case Qc=>rfl);(case Mc=>intro _; rfl);case Nc=>intro _ _ _ _ _ _; rfl);case Dc=>intro _; rfl);case Zb=>refine' pss_one ?Rc;case Rc=>refine' ps_ret (pq 5 (visL zjk) zik zil)
  by_cases hg:Good H ks v
  rotate_left
  ·exact .inl ⟨_,rfl,_,rfl,x,v,ks,ts,fs,rfl,hS,hv,hin,fun z=>absurd z hg,fun _=>no hg⟩
  obtain⟨ns,hrow,ok⟩:=id hg
  obtain⟨a,rfl,hL⟩:=rowOf.lt hrow
  have nl:ns.length≤4:=by rw [ok.len]; exact k4
  have key:∀ (J:It) (H1:Hp),Same H H1→Over H1 a (ns.map iV) J→∀ {Q1:VK},(∀ L ls H2,H2 L=some (.lst (ls.map V.ref))→FoundIn H2 ls ns→Same H H2→Q1 (.ref L) H2)→CompOk 1 J (gName 0) (tCall spOrders [] E0 (tCons (tVar 0) tNil)) (start [Str.ofString "signs",Str.ofString "size",Str.ofString "orders_of_kinds",Str.ofString "many",Str.ofString "found",Str.ofString "rows"] [V.ref x,V.ref a]) H1 Q1:=by
   intro J H1 s1 O Q1 k
   refine O.comp (fun i ys H2=>∃ ls:List Addr,ys=ls.map V.ref∧Same H1 H2∧FoundIn H2 ls (ns.take i)) ⟨[],rfl,Same.refl _,.nil⟩ (by rw [List.length_map]; exact Nat.le_trans nl (by decide)) (fun i ys H2 _ ⟨_,_,z,_⟩ o e=>z _ _ e) ?_ ?_
   ·rintro i y ys H2 hi hy ⟨ls,rfl,s2,r2⟩
    rw [List.getElem?_map] at hi
    obtain⟨n,hn,rfl⟩:=Option.map_eq_some_iff.mp hi
    refine⟨_,rfl,n,rfl,ok.four n (List.mem_of_getElem? hn),fun l as H3 fl el rl s3=>⟨ls++[l],by simp,s2.trans s3,?_⟩⟩
    rw [List.take_succ,hn]
    exact Paired.app (FoundIn.same s3 r2) (.cons ⟨as,el,rl⟩ .nil)
   ·rintro ys H2 hy ⟨ls,rfl,s2,r2⟩ D hD
    rw [List.length_map,List.take_length] at r2
    exact k D ls _ upd_same (FoundIn.same (same_new hD _) r2) ((s1.trans s2).trans (same_new hD _))
  refine iSeq_call hL (fun Q1 h1=>⟨_,rfl,_,rfl,x,.ref a,ks,ts,fs,rfl,hS,hv,hin,fun _=>h1,fun z=>absurd hg z⟩) fun J H1 s1 O=>?_
  intro cl C ex s0 H0
  refine key J H1 s1 O ?_
  intro L ls H2 eL fL s2
  have p4:∀ i,prodN (ns.take i)≤331776:=fun i=>Nat.le_trans (prodN_take ns i) (Nat.le_trans (prodN_le ns) (Nat.le_trans (Nat.pow_le_pow_right (by decide) nl) (by decide)))
  refine⟨_,rfl,L,rfl,⟨_,SqL.of eL⟩,for_list (xs:=ls.map V.ref) (fun i σ H3=>H3=H2∧∃ v4,σ=[some (.ref x),some (.ref a),some (.ref L),some (.int (prodN (ns.take i):Nat)),v4,none]) ⟨rfl,none,rfl⟩ (fun i σ H3 _ ⟨z,_⟩=>z▸SqL.of eL) ?_ ?_⟩
  ·rintro i y σ H3 hi ⟨rfl,v4,rfl⟩
   rw [List.getElem?_map] at hi
   obtain⟨l,hl,rfl⟩:=Option.map_eq_some_iff.mp hi
   obtain⟨n,hn,as,el,rl⟩:=Paired.at fL hl
   have e4:=ok.four n (List.mem_of_getElem? hn)
   refine⟨_,rfl,_,rfl,l,_,rfl,.inl (SqL.of el),_,_,rfl,rfl,.inl ⟨by omega,?_⟩,rfl,some (.ref l),?_⟩
   ·have:=p4 i
    show ((prodN (ns.take i):Nat):Int)<2 ^ 64
    omega
   ·rw [List.take_succ,hn]
    show _=[_,_,_,some (V.int (prodN (ns.take i++[n]):Nat)),_,_]
    rw [prodN_snoc,List.length_map,Paired.length rl,ordN_many e4,Int.natCast_mul]
    rfl
  ·rintro σ H3 ⟨rfl,v4,rfl⟩
   have el0:(ls.map V.ref).length=ns.length:=by rw [List.length_map]; exact Paired.length fL
   rw [el0,List.take_length]
   refine⟨_,rfl,_,_,rfl,rfl,_,rfl,?_⟩
   by_cases hm:576<prodN ns
   ·refine ifT (decide_eq_true (by omega)) ⟨_,rfl,by show 1≤sizeLine; decide,fun e he=>⟨e,_,rfl,upd_same,fun dx h1 h2=>⟨rfl,dx,upd_same,many ns hrow ok hm dx _ ?_ ?_⟩⟩⟩
    ·intro b o hb
     have hb2:=s2 b o hb
     have n1:b≠e:=ne_of_none hb2 he
     have n2:b≠dx:=fun z=>by rw [upd_ne h2] at h1; rw [z,h1] at hb2; cases hb2
     rw [del_ne n1,upd_ne n1,upd_ne n2,upd_ne n1]
     exact hb2
    ·rw [del_ne h2,upd_ne h2,upd_same]
   ·refine ifF (by simp; omega) ?_
    refine⟨by show 0≤sizeLine; decide,fun t ht=>⟨by show 1≤sizeLine; decide,fun l0 hl0=>?_⟩⟩
    have s3:Same H3 (upd (upd H3 t (.tup [])) l0 (.lst [.ref t])):=(same_new ht _).trans (same_new hl0 _)
    have et:(upd (upd H3 t (.tup [])) l0 (.lst [.ref t])) t=some (.tup []):=same_new hl0 _ _ _ upd_same
    have el:(upd (upd H3 t (.tup [])) l0 (.lst [.ref t])) l0=some (.lst [.ref t]):=upd_same
    generalize (upd (upd H3 t (.tup [])) l0 (.lst [.ref t]))=G at s3 et el
    have al:∀ i,(allN (ns.take i)).length≤576:=fun i=>by
     rw [allN_length fun n hn=>ok.four n (List.mem_of_mem_take hn)]
     exact Nat.le_trans (prodN_take ns i) (by omega)
    refine⟨_,rfl,L,rfl,⟨_,SqL.of (s3 _ _ eL)⟩,for_list (xs:=ls.map V.ref) (fun i σ H4=>∃ (l:Addr) (rs:List Addr) (v4:Option V),σ=[some (.ref x),some (.ref a),some (.ref L),some (.int (prodN ns:Nat)),v4,some (.ref l)]∧Same H3 H4∧H4 l=some (.lst (rs.map V.ref))∧NamsIn H4 rs (allN (ns.take i)))
     ⟨l0,[t],_,rfl,s3,el,.cons ⟨[],et,.nil⟩ .nil⟩ (fun i σ H4 _ ⟨_,_,_,_,z,_⟩=>SqL.of (z _ _ eL)) ?_ ?_⟩
    ·rintro i y σ H4 hi ⟨l,rs,v4',rfl,s4,el4,hr4⟩
     rw [List.getElem?_map] at hi
     obtain⟨fl,hfl,rfl⟩:=Option.map_eq_some_iff.mp hi
     obtain⟨n,hn,as,ef,rf⟩:=Paired.at fL hfl
     have e4:=ok.four n (List.mem_of_getElem? hn)
     have ani:(allN (ns.take i)).length≤576:=al i
     have nx:allN (ns.take (i+1))=growN n (allN (ns.take i)):=by rw [List.take_succ,hn,← allN_snoc]; rfl
     have nlen:∀ r∈allN (ns.take i),r.length≤4:=fun r hr=>by rw [allN_len hr,List.length_take]; omega
     have afl:as.length≤24:=by rw [Paired.length rf,ordN_many e4]; exact(fact4_le n).2
     generalize allN (ns.take i)=nm at ani nx nlen hr4
     have rsl:rs.length=nm.length:=Paired.length hr4
     refine⟨_,rfl,l,rfl,⟨_,SqL.of el4⟩,fun cl C ex s0 Hc=>comp2_it rs.length (fun i' ys H5=>∃ bs:List Addr,ys=bs.map V.ref∧Same H4 H5∧NamsIn H5 bs (growN n (nm.take i'))) (fun i' x=>(rs.map V.ref)[i']? = some x) ⟨[],rfl,Same.refl _,.nil⟩
      (fun i' ys H5 hi' ⟨_,_,s5,_⟩=>go_list (SqL.of (s5 _ _ el4)) (by rw [List.length_map]; exact hi')) (fun ys H5 ⟨_,_,s5,_⟩=>by have:=stop_list (K:=K) (SqL.of (K:=K) (s5 _ _ el4)); rw [List.length_map] at this; exact this) ?_ ?_ yes_mono ?_⟩
     ·rintro i' x' ys H5 v1 hi' hx ⟨bs,rfl,s5,r5⟩
      rw [List.getElem?_map] at hx
      obtain⟨ra,hra,rfl⟩:=Option.map_eq_some_iff.mp hx
      obtain⟨r,hr',os,eo,ro⟩:=Paired.at hr4 hra
      have rl:=nlen r (List.mem_of_getElem? hr')
      have osl:os.length=r.length:=Paired.length ro
      have bsl:bs.length≤13824:=by
       rw [Paired.length r5,growN_length e4,List.length_take]
       exact Nat.le_trans (Nat.mul_le_mul (Nat.le_trans (Nat.min_le_right _ _) ani) (fact4_le n).2) (by decide)
      have esucc:growN n (nm.take (i'+1))=growN n (nm.take i')++(ordN n).map fun o=>r++[o]:=by
       rw [List.take_succ,hr']
       unfold growN
       rw [List.flatMap_append]
       simp
      have sA:Same H3 H5:=s4.trans s5
      refine⟨_,rfl,fl,rfl,⟨_,SqL.of (sA _ _ ef)⟩,?_⟩
      refine⟨as.length,fun j zs H6=>∃ cs:List Addr,zs=cs.map V.ref∧Same H4 H6∧j≤as.length∧NamsIn H6 cs (growN n (nm.take i')++((ordN n).take j).map fun o=>r++[o]),fun j y=>(as.map V.ref)[j]? = some y,⟨bs,rfl,s5,Nat.zero_le _,by simpa using r5⟩,?_,?_,?_,?_⟩
      ·rintro j zs H6 ⟨cs,rfl,s6,hj,r6⟩
       have e:=Paired.length r6
       have e3:=Paired.length r5
       rw [List.length_append,List.length_map,List.length_take] at e
       rw [List.length_map]
       exact Nat.lt_of_le_of_lt (show cs.length≤14000 by omega) (by decide)
      ·rintro j zs H6 hj ⟨_,_,s6,_⟩
       exact go_list (SqL.of ((s4.trans s6) _ _ ef)) (by rw [List.length_map]; exact hj)
      ·rintro zs H6 ⟨cs,rfl,s6,_,r6⟩
       refine⟨by have:=stop_list (K:=K) (SqL.of (K:=K) ((s4.trans s6) _ _ ef)); rw [List.length_map] at this; exact this,cs,rfl,s6,?_⟩
       rw [esucc]
       rw [List.take_of_length_le (l:=ordN n) (by rw [Paired.length rf]; exact Nat.le_refl _)] at r6
       exact r6
      ·rintro j y zs H6 hj hy ⟨cs,rfl,s6,_,r6⟩
       rw [List.getElem?_map] at hy
       obtain⟨oa,hoa,rfl⟩:=Option.map_eq_some_iff.mp hy
       obtain⟨o,ho,eoa⟩:=Paired.at rf hoa
       have eN:(ordN n).take (j+1)=(ordN n).take j++[o]:=by rw [List.take_succ,ho]; rfl
       refine yes_of ?_
       refine ifT rfl ?_
       refine⟨_,rfl,_,rfl,by show 1≤sizeLine; decide,fun p hp=>?_⟩
       have s7:=same_new hp (.tup [V.ref oa])
       refine cat_of (s7 _ _ (s6 _ _ eo)) upd_same (Nat.le_trans (show _≤100 from ?_) (by decide)) fun p2 H8 hp2 s8=>⟨cs++[p2],by simp,s6.trans (s7.trans s8),hj,?_⟩
       ·rw [List.length_map,osl]
        show r.length+1≤100
        omega
       ·rw [eN,List.map_append,← List.append_assoc]
        refine Paired.app (NamsIn.same (s7.trans s8) r6) (.cons ⟨os++[oa],?_,?_⟩ .nil)
        ·rw [hp2,List.map_append]; rfl
        ·exact Paired.app (RowsIn.same ((s6.trans s7).trans s8) ro) (.cons (((s4.trans s6).trans (s7.trans s8)) _ _ eoa) .nil)
     ·rintro ys H5 ⟨bs,rfl,s5,r5⟩ D hD
      refine⟨D,bs,_,rfl,(s4.trans s5).trans (same_new hD _),upd_same,?_⟩
      rw [rsl,List.take_length,← nx] at r5
      exact NamsIn.same (same_new hD _) r5
     ·rintro σ H Q Q' ⟨v,h1,j,e1,e2,hq⟩ k
      exact⟨v,h1,j,e1,e2,k _ _ hq⟩
    ·rintro σ H4 ⟨l,rs,v4',rfl,s4,el4,hr4⟩
     rw [el0,List.take_length] at hr4
     exact⟨_,rfl,q ns hrow ok (by omega) l rs H4 el4 hr4 (s2.trans s4)⟩
end
end Few
namespace L2
open PySem PySem.Spec PyProof.Rows
theorem RdsA.get {H:Hp}:∀ {xs:List V} {ds:List PyData} {j:Nat} {x:V},RdsA H xs ds→xs[j]? = some x→∃ d,ds[j]? = some d∧RdsV H x d
 | _,_,0,_,.cons a _,e=>by cases e; exact⟨_,rfl,a⟩
 | _,_,j+1,_,.cons _ r,e=>RdsA.get (j:=j) r e
 | _,_,_,_,.nil,e=>by cases e
theorem RdsA.len {H:Hp}:∀ {xs:List V} {ds:List PyData},RdsA H xs ds→xs.length=ds.length
 | _,_,.nil=>rfl
 | _,_,.cons _ r=>congrArg Nat.succ r.len
inductive rAlikeI (v:V) (x y:V) (H:Hp) (Q:VK):Prop where
 | mk:∀ a b xs ys ds,x=.ref a→y=.ref b→H a=some (.lst xs)→H b=some (.lst ys)→RdsA H xs ds→RdsA H ys ds→PyData.canLayAll0 ds=true→(∀ d∈ds,d.depth≤8)→Q v H→rAlikeI v x y H Q
section
variable {X:Cx}
theorem alike {H:Hp} {s:Shared} {xs ys:List V} {ds:List PyData} {its jts:List Value} {A:Around} (ok:HOk X.prog X.w H s.heap) (hx:RdsA H xs ds) (hy:RdsA H ys ds) (hc:PyData.canLayAll0 ds=true) (hd:∀ d∈ds,d.depth≤8) (hu:A.units+8<cLine) (r1:Vals xs its) (r2:Vals ys jts)
  (j:Nat) (h1:j<its.toArray.size) (h2:j<jts.toArray.size):SeqAt.EqAt A s its.toArray[j] jts.toArray[j] true:=by
 have l1:j<xs.length:=by rw [r1.length]; simpa using h1
 have l2:j<ys.length:=by rw [r2.length]; simpa using h2
 obtain⟨d,e1,q1⟩:=hx.get (List.getElem?_eq_getElem l1)
 obtain⟨d',e2,q2⟩:=hy.get (List.getElem?_eq_getElem l2)
 obtain rfl:d=d':=Option.some.inj (e1.symm.trans e2)
 obtain⟨u,eu,ru⟩:=r1.get (List.getElem?_eq_getElem l1)
 obtain⟨u',eu',ru'⟩:=r2.get (List.getElem?_eq_getElem l2)
 obtain⟨as,ra⟩:=q1.reads ok ru
 obtain⟨bs,rb⟩:=q2.reads ok ru'
 have c:=PyData.canLay0_of_mem ds d hc (List.mem_of_getElem? e1)
 have z:=SeqAt.eqAt_reads d d A s u u' as bs ra rb c c (by have:=hd d (List.mem_of_getElem? e1); omega)
 rw [SeqAt.eqv_refl d c] at z
 have g1:its.toArray[j]=u:=by simpa using (List.getElem?_eq_some_iff.mp eu).2
 have g2:jts.toArray[j]=u':=by simpa using (List.getElem?_eq_some_iff.mp eu').2
 rw [g1,g2]
 exact z
theorem op_neD (hu:X.A.units+64<cLine):OpR X (compareOp .NotEq) (fun x y H Q=>rAlikeI (.bl false) x y H Q):=by
 intro pins s σ H x y v u Q I rx ry h
 obtain⟨a,b,xs,ys,ds,rfl,rfl,ha,hb,dx,dy,hc,hd,q⟩:=h
 cases rx
 cases ry
 obtain⟨its,r1,p1,_⟩:=I.list (SqL.of ha)
 obtain⟨jts,r2,p2,_⟩:=I.list (SqL.of hb)
 refine SeqAt.RcNeAt.lists (e:=fun _=>true) p1.isList p2.isList (by simp [← r1.length,← r2.length,dx.len,dy.len]) (Nat.lt_of_le_of_lt (Nat.le_add_right _ 64) hu) (fun j h1 h2=>alike I.hok dx dy hc hd ?_ r1 r2 j h1 h2) X.prog X.w X.xe _ ⟨.bl false,H,I.tok _,?_,q⟩
 ·show X.A.units+1+8<cLine; omega
 ·show Value.bool _=Value.bool false
  congr 1
  simp
theorem op_eqD (hu:X.A.units+64<cLine):OpR X (compareOp .Eq) (fun x y H Q=>rAlikeI (.bl true) x y H Q):=by
 intro pins s σ H x y v u Q I rx ry h
 obtain⟨a,b,xs,ys,ds,rfl,rfl,ha,hb,dx,dy,hc,hd,q⟩:=h
 cases rx
 cases ry
 obtain⟨its,r1,p1,_⟩:=I.list (SqL.of ha)
 obtain⟨jts,r2,p2,_⟩:=I.list (SqL.of hb)
 refine SeqAt.eq_listAt (e:=fun _=>true) p1.isList p2.isList (by simp [← r1.length,← r2.length,dx.len,dy.len]) (Nat.lt_of_le_of_lt (Nat.le_add_right _ 64) hu) (fun j h1 h2=>alike I.hok dx dy hc hd ?_ r1 r2 j h1 h2) ⟨.bl true,H,I.tok _,?_,q⟩
 ·show X.A.units+1+8<cLine; omega
 ·show Value.bool _=Value.bool true
  congr 1
  simp
end
end L2
namespace Few
open PySem L2
theorem zju:LD "all_namings":=by decide +kernel
theorem zjv:LD "as_lists":=by decide +kernel
structure Tel (H0 H:Hp) (ts:List Addr) (lss:List (List Addr)) (nms:List (List (List Int))):Prop where
 l1:ts.length=nms.length
 l2:lss.length=nms.length
 row:∀ (i:Nat) (t:Addr) (ls:List Addr) (nm:List (List Int)),ts[i]? = some t→lss[i]? = some ls→nms[i]? = some nm→H t=some (.lst (ls.map V.ref))∧LstsIn H ls nm
 f1:∀ a∈ts,H0 a=none
 f2:∀ a∈lss.flatten,H0 a=none
 n1:ts.Nodup
 n2:lss.flatten.Nodup
 n3:∀ a∈ts,¬ a∈lss.flatten
theorem Tel.same {H0 H H':Hp} {ts:List Addr} {lss:List (List Addr)} {nms:List (List (List Int))} (h:Tel H0 H ts lss nms) (s:Same H H'):Tel H0 H' ts lss nms:=
 ⟨h.l1,h.l2,fun i t ls nm a b c=>let ⟨p,q⟩:=h.row i t ls nm a b c; ⟨s _ _ p,Paired.mapP q fun _ _ e=>s _ _ e⟩,h.f1,h.f2,h.n1,h.n2,h.n3⟩
theorem Tel.there1 {H0 H:Hp} {ts:List Addr} {lss:List (List Addr)} {nms:List (List (List Int))} (h:Tel H0 H ts lss nms) {a:Addr} (ha:a∈ts):H a≠none:=by
 obtain⟨i,hi⟩:=List.getElem?_of_mem ha
 have li:i<ts.length:=(List.getElem?_eq_some_iff.mp hi).1
 have e1:lss[i]? = some (lss[i]'(by rw [h.l2,← h.l1]; exact li)):=List.getElem?_eq_getElem _
 have e2:nms[i]? = some (nms[i]'(by rw [← h.l1]; exact li)):=List.getElem?_eq_getElem _
 rw [(h.row i a _ _ hi e1 e2).1]; simp
theorem lsts_there {H:Hp}:∀ {ls:List Addr} {nm:List (List Int)},LstsIn H ls nm→∀ a∈ls,H a≠none
 | _,_,.cons e r,a,ha=>by
  rcases List.mem_cons.mp ha with rfl | ha
  ·rw [e]; simp
  ·exact lsts_there r a ha
theorem Tel.there2 {H0 H:Hp} {ts:List Addr} {lss:List (List Addr)} {nms:List (List (List Int))} (h:Tel H0 H ts lss nms) {a:Addr} (ha:a∈lss.flatten):H a≠none:=by
 obtain⟨ls,hl,hx⟩:=List.mem_flatten.mp ha
 obtain⟨i,hi⟩:=List.getElem?_of_mem hl
 have li:i<lss.length:=(List.getElem?_eq_some_iff.mp hi).1
 have e1:ts[i]? = some (ts[i]'(by rw [h.l1,← h.l2]; exact li)):=List.getElem?_eq_getElem _
 have e2:nms[i]? = some (nms[i]'(by rw [← h.l2]; exact li)):=List.getElem?_eq_getElem _
 exact lsts_there (h.row i _ _ _ e1 hi e2).2 a hx
theorem Tel.nil (H0 H:Hp):Tel H0 H [] [] []:=⟨rfl,rfl,fun i t ls nm a=>by (cases a),fun _ z=>(nomatch z),fun _ z=>(nomatch z),List.nodup_nil,List.nodup_nil,fun _ z=>(nomatch z)⟩
theorem Tel.snoc {H0 H H':Hp} {ts:List Addr} {lss:List (List Addr)} {nms:List (List (List Int))} {t:Addr} {ls:List Addr} {nm:List (List Int)} (h:Tel H0 H ts lss nms) (s0:Same H0 H) (s:Same H H') (ft:H t=none) (et:H' t=some (.lst (ls.map V.ref))) (el:LstsIn H' ls nm) (fl:∀ x∈ls,H x=none∧x≠t) (nd:ls.Nodup) :
  Tel H0 H' (ts++[t]) (lss++[ls]) (nms++[nm]):=by
 have ha:=h.same s
 have fe:(lss++[ls]).flatten=lss.flatten++ls:=by rw [List.flatten_append]; simp
 refine⟨by simp [h.l1],by simp [h.l2],fun i t' ls' nm' a b c=>?_,fun a m=>?_,fun a m=>?_,?_,?_,fun a m z=>?_⟩
 ·by_cases hi:i<ts.length
  ·rw [List.getElem?_append_left hi] at a
   rw [List.getElem?_append_left (by rw [h.l2,← h.l1]; exact hi)] at b
   rw [List.getElem?_append_left (by rw [← h.l1]; exact hi)] at c
   exact ha.row i _ _ _ a b c
  ·have e:i=ts.length:=by
    have:=(List.getElem?_eq_some_iff.mp a).1
    rw [List.length_append] at this
    simp at this
    omega
   subst e
   rw [List.getElem?_append_right (Nat.le_refl _),Nat.sub_self] at a
   rw [h.l1,← h.l2,List.getElem?_append_right (Nat.le_refl _),Nat.sub_self] at b
   rw [h.l1,List.getElem?_append_right (Nat.le_refl _),Nat.sub_self] at c
   cases a
   cases b
   cases c
   exact⟨et,el⟩
 ·rcases List.mem_append.mp m with m | m
  ·exact h.f1 a m
  ·rw [List.mem_singleton.mp m]; exact s0.free ft
 ·rw [fe] at m
  rcases List.mem_append.mp m with m | m
  ·exact h.f2 a m
  ·exact s0.free (fl a m).1
 ·refine List.nodup_append.mpr ⟨h.n1,by simp,fun x hx y hy e=>?_⟩
  rw [List.mem_singleton.mp hy] at e
  subst e
  exact h.there1 hx ft
 ·rw [fe]
  refine List.nodup_append.mpr ⟨h.n2,nd,fun x hx y hy e=>?_⟩
  subst e
  exact h.there2 hx (fl x hy).1
 ·rw [fe] at z
  rcases List.mem_append.mp m with m | m
  ·rcases List.mem_append.mp z with z | z
   ·exact h.n3 a m z
   ·exact h.there1 m (fl a z).1
  ·rw [List.mem_singleton.mp m] at z
   rcases List.mem_append.mp z with z | z
   ·exact h.there2 z ft
   ·exact(fl t z).2 rfl
section
variable {P:Program} {w:World} {K:PySem.W.Frag} {mg:Str→Option Value} {base:Heap}
abbrev s_namings:Stmt:=top 22
theorem zjw:FnScope ["signs","size"] ["signs","size"] (defScope s_namings):=⟨rfl,rfl,rfl,by decide +kernel,rfl,by decide +kernel,by decide +kernel⟩
theorem zjx:LN .globalImplicit s_namings "all_namings":=by decide +kernel
theorem zjy:LN .local s_namings "signs":=by decide +kernel
theorem zjz:LN .local s_namings "size":=by decide +kernel
abbrev QS11:Scope:={kind:=PySem.ScopeKind.function,names:=[ (PySem.Str.ofString ".0",PySem.NameKind.local),(PySem.Str.ofString "naming",PySem.NameKind.local),(PySem.Str.ofString "as_lists",PySem.NameKind.globalImplicit)],isGenerator:=false,isCoroutine:=false,more:=[]:PySem.Scope}
theorem zj0:CompSc 1 ["naming","signs","size"] ["signs","size"] (defScope s_namings) QS11:=⟨rfl,by decide +kernel,by decide +kernel,by decide +kernel,by decide +kernel,rfl,by decide +kernel⟩
theorem zj1:LC .globalImplicit QS11 "as_lists":=by decide +kernel
theorem zj2:LC .local QS11 "naming":=by decide +kernel
def spNam (C N M:Addr):Sp:=fun vs H Q E=>∃ (x:Addr) (v:V) (ks:List Str) (ts:List TieR) (fs:List FunR),vs=[.ref x,v]∧SignsAt C H x ks ts fs∧ks.length≤4∧Sh H v∧(∀ xs,rowOf H v=some xs→∀ y∈xs,Sh H y)∧
 (∀ ns:List Nat,rowOf H v=some (ns.map iV)→SizeOk ks ns→prodN ns≤576→∀ l ts lss H',H l=none→H' l=some (.lst (ts.map V.ref))→Tel H H' ts lss (allN ns)→(¬ l∈ts∧¬ l∈lss.flatten)→Same H H'→Q (.ref l) H')∧
 (∀ ns:List Nat,rowOf H v=some (ns.map iV)→SizeOk ks ns→576<prodN ns→∀ dx H',Same H H'→H' dx=some (.xd [("many",.int (prodN ns:Nat))])→E (.ref M) (some dx) H')∧
 (¬ Good H ks v→∀ H',Same H H'→E (.ref N) none H')
theorem ok_nam {C N M:Addr} (F:FunAt K mg "namings" s_namings ["signs","size"]) (Z:Bl mg) (D_all_namings:DefE P w K mg base "all_namings" 3 ["signs","size"] (spAll C N M)) (D_as_lists:Def P w K mg base "as_lists" 1 ["naming"] spAsL):DefE P w K mg base "namings" 4 ["signs","size"] (spNam C N M):=by
 have SC:=zjw
 refine F.mkE (k:=3) zjw (fun vs H Q E h=>?_) (fun f cdv A outer s H vs Q E hr h=>?_)
 ·obtain⟨x,v,ks,ts,fs,rfl,_⟩:=h
  rfl
 ·obtain⟨x,v,ks,ts,fs,rfl,hS,k4,hv,hin,q,many,no⟩:=h
  refine'⟨_,?derivation,?_⟩
  case derivation=>refine' pss_one ?Aa;case Aa=>refine' ps_ret ?Ba;case Ba=>refine' pe_compE framed_of rfl zj0.at ?Ca ?Da ?Ea ?Fa;(case Ca=>refine' pi_list ?Ga;case Ga=>refine' pe_defE (hdb:=zju) framed_of D_all_namings (hr.mono (by decide)) zjx ?Ha rfl rfl;case Ha=>refine' pa_cons (pq 0 (visL zjy) zhw zhx) ?Ia ?Ja;(case Ia=>refine' pa_cons (pq 1 (visL zjz) zhy zhz) pa_nil ?Ka;case Ka=>rfl);case Ja=>rfl);(case Da=>intro _ _ _ _ _;refine' pg_name (i:=0) zj0.nd rfl (locO zj2) (.inr (lookup_relabel_local zj2)));(case Ea=>intro _ _ _ _ _;refine' pe_defN (hdb:=zjv) D_as_lists (hr.mono (by decide)) (glO zj1) ?La;case La=>refine' pa_cons (pq 0 (visO zj2) zie zif) pa_nil ?Ma;case Ma=>rfl);case Fa=>intro _; rfl
  refine⟨_,rfl,_,rfl,x,v,ks,ts,fs,rfl,hS,k4,hv,hin,fun ns hrow ok hp l tp H1 el hn s1=>?_,many,no⟩
  have nlen:∀ r∈allN ns,r.length≤4:=fun r hr=>by rw [allN_len hr,ok.len]; exact k4
  have al:(allN ns).length≤576:=by rw [allN_length fun n hn=>ok.four n hn]; exact hp
  have tl:tp.length=(allN ns).length:=Paired.length hn
  have qq:=q ns hrow ok hp
  generalize allN ns=nms at *
  refine⟨l,rfl,⟨_,SqL.of el⟩,fun cl C ex s0 H0=>?_⟩
  refine comp_it1 tp.length (fun i ys H2=>∃ (ts:List Addr) (lss:List (List Addr)),ys=ts.map V.ref∧Same H1 H2∧Tel H H2 ts lss (nms.take i)) (fun i x=>(tp.map V.ref)[i]? = some x) ⟨[],[],rfl,Same.refl _,Tel.nil _ _⟩ (Nat.le_trans (show tp.length≤576 by omega) (by decide))
   (fun i ys H2 hi _ ⟨_,_,_,s2,_⟩=>go_list (SqL.of (s2 _ _ el)) (by rw [List.length_map]; exact hi)) (fun ys H2 _ ⟨_,_,_,s2,_⟩=>by have:=stop_list (K:=K) (SqL.of (K:=K) (s2 _ _ el)); rw [List.length_map] at this; exact this) ?_ ?_
  ·rintro i x ys H2 hi hx hy ⟨ts,lss,rfl,s2,T⟩
   rw [List.getElem?_map] at hx
   obtain⟨t,ht,rfl⟩:=Option.map_eq_some_iff.mp hx
   obtain⟨nm,hnm,os,eo,ro⟩:=Paired.at hn ht
   refine⟨_,rfl,t,os,nm,rfl,s2 _ _ eo,RowsIn.same s2 ro,nlen nm (List.mem_of_getElem? hnm),fun l2 ls H3 f2 e2 r2 fr nd s3=>⟨ts++[l2],lss++[ls],by simp,s2.trans s3,?_⟩⟩
   rw [List.take_succ,hnm]
   exact T.snoc (s1.trans s2) s3 f2 e2 r2 fr nd
  ·rintro ys H2 hy ⟨ts,lss,rfl,s2,T⟩ D hD
   rw [tl,List.take_length] at T
   exact qq D ts lss _ ((s1.trans s2).free hD) upd_same (T.same (same_new hD _)) ⟨fun z=>T.there1 z hD,fun z=>T.there2 z hD⟩ ((s1.trans s2).trans (same_new hD _))
end
end Few
namespace L2
open PySem PySem.Spec PyProof.Rows
theorem compF_it {J:It} {tc:TT} {te:TE} {σ:St} {H:Hp} {Q:VK} (n:Nat) (Pv:Nat→List V→Hp→Prop) (Vx:Nat→V→Prop) (h0:Pv 0 [] H) (hz:∀ i ys H,i<n→Pv i ys H→ys.length<sizeLine) (hgo:∀ i ys H,i<n→Pv i ys H→J.go i H∧∀ x H',J.yld i H x H'→H'=H∧Vx i x) (hstop:∀ ys H,Pv n ys H→J.stop n H)
  (hs:∀ i x ys H,i<n→Vx i x→Pv i ys H→tc (some x::σ) H fun b H3=>if b=true then te (some x::σ) H3 fun v H4=>Pv (i+1) (ys++[v]) H4 else Pv (i+1) ys H3)
  (hd:∀ ys H,Pv n ys H→∀ D,H D=none→Q (.ref D) (upd H D (.lst ys)))
  (htc:∀ σ H (Q Q':Bool→Hp→Prop),tc σ H Q→(∀ b H',Q b H'→Q' b H')→tc σ H Q'):CompOkF 1 J (gName 0) tc te σ H Q:=by
 refine⟨fun i m ys σ' H=>i≤n∧m=n-i∧Pv i ys H∧∃ v0,σ'=v0::σ,⟨n,Nat.zero_le _,rfl,h0,none,rfl⟩,?_⟩
 rintro i m ys σ' H1 ⟨hi,rfl,p,v0,rfl⟩
 by_cases hlt:i<n
 ·obtain⟨g1,g2⟩:=hgo i ys H1 hlt p
  refine .inr ⟨g1,hz i ys H1 hlt p,fun x H' y=>?_⟩
  obtain⟨rfl,vx⟩:=g2 x H' y
  refine htc _ _ _ _ (hs i x ys H' hlt vx p) ?_
  intro b H5 hb
  cases b with
  | true=>
   rw [if_pos rfl] at hb ⊢
   exact⟨_,hb,fun v H7 e=>⟨n - (i+1),by omega,hlt,rfl,e,_,rfl⟩⟩
  | false=>
   rw [if_neg Bool.false_ne_true] at hb ⊢
   exact⟨n - (i+1),by omega,hlt,rfl,hb,_,rfl⟩
 ·have e:i=n:=by omega
  subst e
  exact .inl ⟨hstop ys H1 p,hd ys H1 p⟩
end L2
namespace Few
open PySem L2
theorem zj3:LD "Signs":=by decide +kernel
theorem zj4:LD "_law_book_here":=by decide +kernel
theorem zj5:LS "_law_book_here":=by decide +kernel
theorem zj6:LD "_law_longer":=by decide +kernel
theorem zj7:LS "_law_longer":=by decide +kernel
theorem zj8:LD "_law_made":=by decide +kernel
theorem zj9:LS "_law_made":=by decide +kernel
theorem zka:LD "_law_naming":=by decide +kernel
theorem zkb:LS "_law_naming":=by decide +kernel
theorem zkc:LD "_law_order":=by decide +kernel
theorem zkd:LS "_law_order":=by decide +kernel
theorem zke:LD "_law_orders":=by decide +kernel
theorem zkf:LD "_law_size":=by decide +kernel
theorem zkg:LS "_law_size":=by decide +kernel
theorem zkh:LD "_law_thing":=by decide +kernel
theorem zki:LS "_law_thing":=by decide +kernel
theorem tiesL_sgs {R:Addr→Prop} {H:Hp}:∀ {ts:List TieR} {tv:List V},RdA R H tv (ts.map tieL)→∃ ab:List (Addr×Addr),tv=ab.map (fun q=>V.ref q.1)∧Sgs H ab (ts.map tieRow)
 | [],_,.nil=>⟨[],rfl,.nil⟩
 | t::r,_,.cons a b=>by
  obtain⟨ab,rfl,hs⟩:=tiesL_sgs b
  obtain⟨q1,qx,rfl,_,h1,h2⟩:=RdV.tuple_inv a
  obtain⟨u,v,rfl,hu,hv⟩:=h2.two
  obtain rfl:=hu.str_inv
  obtain⟨q2,qy,rfl,_,h3,h4⟩:=hv.list_inv
  obtain rfl:=h4.strs_inv
  exact⟨(q1,q2)::ab,rfl,.cons ⟨.inr h1,.inl h3⟩ hs⟩
theorem funsL_sgs {R:Addr→Prop} {H:Hp}:∀ {ts:List FunR} {tv:List V},RdA R H tv (ts.map funL)→∃ ab:List (Addr×Addr),tv=ab.map (fun q=>V.ref q.1)∧Sgs H ab (ts.map funRow)
 | [],_,.nil=>⟨[],rfl,.nil⟩
 | t::r,_,.cons a b=>by
  obtain⟨ab,rfl,hs⟩:=funsL_sgs b
  obtain⟨q1,qx,rfl,_,h1,h2⟩:=RdV.tuple_inv a
  obtain⟨u,v,x,rfl,hu,hv,hx⟩:=h2.three
  obtain rfl:=hu.str_inv
  obtain rfl:=hx.str_inv
  obtain⟨q2,qy,rfl,_,h3,h4⟩:=hv.list_inv
  obtain rfl:=h4.strs_inv
  exact⟨(q1,q2)::ab,rfl,.cons ⟨.inr h1,.inl h3⟩ hs⟩
theorem bk_open {R:Addr→Prop} {H:Hp} {b:Addr} {ks:List Str} {ts:List TieR} {fs:List FunR} (h:RdV R H (.ref b) (bookL ks ts fs)):∃ k t f tv fv,H b=some (.tup [.ref k,.ref t,.ref f])∧R b∧R k∧H k=some (.lst (ks.map V.str))∧R t∧H t=some (.lst tv)∧RdA R H tv (ts.map tieL)∧R f∧H f=some (.lst fv)∧RdA R H fv (fs.map funL):=by
 obtain⟨_,xs,e,hb,h1,h2⟩:=RdV.tuple_inv h
 cases e
 obtain⟨x,y,z,rfl,hx,hy,hz⟩:=h2.three
 obtain⟨k,kx,rfl,nk,h3,h4⟩:=hx.list_inv
 obtain rfl:=h4.strs_inv
 obtain⟨t,tx,rfl,nt,h5,h6⟩:=hy.list_inv
 obtain⟨f,fx,rfl,nf,h7,h8⟩:=hz.list_inv
 exact⟨k,t,f,tx,fx,h1,hb,nk,h3,nt,h5,h6,nf,h7,h8⟩
theorem same_make {H:Hp} {x dx CB:Addr} (hx:H x=none) (hd:H dx=none) (n:dx≠x):Same H (upd (upd H dx (.own x)) x (.ins CB dx [])):=
 (same_new hd _).trans (same_new (by rw [upd_ne (Ne.symm n)]; exact hx) _)
theorem same_made {H H1 H2:Hp} {x:Addr} (hx:H x=none) (s:Same H H1) (t:SameX x H1 H2):Same H H2:=fun b o e=>t b o (ne_of_none e hx) (s b o e)
theorem at_fact {n:Nat} (h:n≤4):atI [V.int 1,V.int 1,V.int 2,V.int 6,V.int 24] n=some (.int (fact4 n:Nat)):=by
 have : n=0∨n=1∨n=2∨n=3∨n=4:=by omega
 rcases this with rfl | rfl | rfl | rfl | rfl <;> rfl
theorem ext_many {n:Nat} (h4:n≤4) (l:List (List Int)):(l.flatMap (ext1 n)).length≤l.length*4:=by
 induction l with
 | nil=>exact Nat.le_refl _
 | cons x r ih=>
  rw [List.flatMap_cons,List.length_append,List.length_cons]
  have h2:(ext1 n x).length≤4:=by
   unfold ext1
   rw [List.length_map]
   exact Nat.le_trans (List.length_filter_le _ _) (by rw [upN_length]; exact h4)
  omega
theorem lsts_put {H:Hp} {L:Addr} {o:HO}:∀ {as:List Addr} {rs:List (List Int)},(∀ x∈as,x≠L)→LstsIn H as rs→LstsIn (upd H L o) as rs
 | _,_,_,.nil=>.nil
 | _,_,n,.cons e r=>.cons (by rw [upd_ne (n _ (List.mem_cons_self ..))]; exact e) (lsts_put (fun x hx=>n x (List.mem_cons_of_mem _ hx)) r)
abbrev NamsX (L:Addr) (H:Hp):List Addr→List (List (List Int))→Prop:=Paired fun t nm=>t≠L∧∃ os,(∀ o∈os,o≠L)∧H t=some (.lst (os.map V.ref))∧LstsIn H os nm
abbrev NamsL (H:Hp):List Addr→List (List (List Int))→Prop:=Paired fun t nm=>∃ os,H t=some (.lst (os.map V.ref))∧LstsIn H os nm
theorem NamsX.same {L:Addr} {H H':Hp} (s:Same H H') {ts:List Addr} {nms:List (List (List Int))} (h:NamsX L H ts nms):NamsX L H' ts nms:=Paired.mapP h fun t nm ⟨a,os,b,c,d⟩=>⟨a,os,b,s _ _ c,Paired.mapP d fun _ _ e=>s _ _ e⟩
theorem NamsL.same {H H':Hp} (s:Same H H') {ts:List Addr} {nms:List (List (List Int))} (h:NamsL H ts nms):NamsL H' ts nms:=Paired.mapP h fun t nm ⟨os,c,d⟩=>⟨os,s _ _ c,Paired.mapP d fun _ _ e=>s _ _ e⟩
theorem NamsX.put {L:Addr} {H:Hp} {o:HO} {ts:List Addr} {nms:List (List (List Int))} (h:NamsX L H ts nms):NamsX L (upd H L o) ts nms:=Paired.mapP h fun t nm ⟨a,os,b,c,d⟩=>⟨a,os,b,by rw [upd_ne a]; exact c,lsts_put b d⟩
theorem NamsX.out {L:Addr} {H:Hp} {ts:List Addr} {nms:List (List (List Int))} (h:NamsX L H ts nms):NamsL H ts nms:=Paired.mapP h fun t nm ⟨_,os,_,c,d⟩=>⟨os,c,d⟩
section
variable {P:Program} {w:World} {K:PySem.W.Frag} {mg:Str→Option Value} {base:Heap}
abbrev s_TooMany__init__:Stmt:=inClass (top 8) 0
theorem zkj:FnScope ["self","many"] ["self","many"] (defScope s_TooMany__init__):=⟨rfl,rfl,rfl,by decide +kernel,rfl,by decide +kernel,by decide +kernel⟩
theorem zkk:LN .local s_TooMany__init__ "many":=by decide +kernel
theorem zkl:LN .local s_TooMany__init__ "self":=by decide +kernel
theorem ok_tminit {f C:Addr} {fd:FuncData} (F:Fun K "__init__" "TooMany.__init__" s_TooMany__init__ f fd) (Z:Bl mg) (T:XSet K C "many") :
  FnOk P w K mg base CX0 1 f fd ["self","many"] (spTM C):=by
 have SC:=zkj
 refine F.ok (k:=0) zkj (fun vs H Q E h=>?_) (fun cdv A outer s H vs Q E hr h=>?_)
 ·obtain⟨a,v,rfl,_⟩:=h
  rfl
 ·obtain⟨a,v,rfl,ha,q⟩:=h
  refine'⟨_,?derivation,?_⟩
  case derivation=>refine' pss_one ?Aa;case Aa=>refine' ps_fldX (pq 0 (visL zkl) zgv zgw) (pq 1 (visL zkk) zi7 zi8) rfl
  exact⟨_,rfl,_,rfl,a,C,rfl,ha,T,fun dx h1 h2=>q dx h1 h2⟩
abbrev s_law_signs:Stmt:=top 45
theorem zkm:FnScope ["_law_book_here"] ["_law_book_here"] (defScope s_law_signs):=⟨rfl,rfl,rfl,by decide +kernel,rfl,by decide +kernel,by decide +kernel⟩
theorem zkn:LN .globalImplicit s_law_signs "Signs":=by decide +kernel
theorem zko:LN .local s_law_signs "_law_book_here":=by decide +kernel
def spMkS (C:Addr):Sp:=fun vs H Q _=>∃ (R:Addr→Prop) (b:Addr) (ks:List Str) (ts:List TieR) (fs:List FunR),vs=[.ref b]∧RdV R H (.ref b) (bookL ks ts fs)∧BookOk ks ts fs∧∀ x H',H x=none→SignsAt C H' x ks ts fs→Same H H'→Q (.ref x) H'
theorem ok_mks {C fI:Addr} {fdI:FuncData} (F:FunAt K mg "_law_signs" s_law_signs ["_law_book_here"]) (Z:Bl mg) (M_Signs:Mk K C fI) (G_Signs:FnOk P w K mg base CX0 5 fI fdI ["self","kinds","ties","functions"] (spInit C)) (m_Signs:mg "Signs"=some (.ref C)) (b_Signs:Binds K fdI ["self","kinds","ties","functions"] []) :
  Def P w K mg base "_law_signs" 7 ["_law_book_here"] (spMkS C):=by
 have SC:=zkm
 refine F.mk' (k:=6) zkm (fun vs H Q E h=>?_) (fun f cdv A outer s H vs Q E hr h=>?_)
 ·obtain⟨R,b,ks,ts,fs,rfl,_⟩:=h
  rfl
 ·obtain⟨R,b,ks,ts,fs,rfl,rb,ok,q⟩:=h
  obtain⟨kA,tA,fA,tv,fv,b1,_,_,k1,_,t1,t2,_,f1,f2⟩:=bk_open rb
  refine'⟨_,?derivation,?_⟩
  case derivation=>refine' pss_one ?Aa;case Aa=>refine' ps_ret ?Ba;case Ba=>refine' pe_make (hdb:=zj3) M_Signs G_Signs (hr.mono (by decide)) zkn m_Signs b_Signs .nil pass0 ?Ca rfl rfl;case Ca=>refine' pa_cons ?Da ?Ea ?Fa;(case Da=>refine' pe_ix ix_tup (pq 0 (visL zko) zj4 zj5) ?Ga ?Ha;(case Ga=>exact pe_int);case Ha=>intro _ _;exact rfl);(case Ea=>refine' pa_cons ?Ia ?Ja ?Ka;(case Ia=>refine' pe_ix ix_tup (pq 0 (visL zko) zj4 zj5) ?La ?Ma;(case La=>exact pe_int);case Ma=>intro _ _;exact rfl);(case Ja=>refine' pa_cons ?Na pa_nil ?Oa;(case Na=>refine' pe_ix ix_tup (pq 0 (visL zko) zj4 zj5) ?Pa ?Qa;(case Pa=>exact pe_int);case Qa=>intro _ _;exact rfl);case Oa=>rfl);case Ka=>rfl);case Fa=>rfl
  refine⟨_,rfl,b,_,_,_,rfl,rfl,SqT.of b1,rfl,_,rfl,b,_,_,_,rfl,rfl,SqT.of b1,rfl,_,rfl,b,_,_,_,rfl,rfl,SqT.of b1,rfl,fun x dx hx hd nd=>?_⟩
  have s6:=same_make (CB:=C) hx hd nd
  obtain⟨ab,rfl,sab⟩:=tiesL_sgs (t2.same s6)
  obtain⟨cd,rfl,scd⟩:=funsL_sgs (f2.same s6)
  refine⟨x,dx,kA,tA,fA,ab,cd,ks,ts,fs,rfl,upd_same,.inl (s6 _ _ k1),.inl (s6 _ _ t1),sab,.inl (s6 _ _ f1),scd,ok,fun H7 g7 x7=>⟨rfl,?_⟩⟩
  exact q x H7 hx g7 (same_made hx s6 x7)
abbrev s_law_many_namings:Stmt:=top 46
theorem zkp:FnScope ["_law_size","_law_made","_law_many"] ["_law_size"] (defScope s_law_many_namings):=⟨rfl,rfl,rfl,by decide +kernel,rfl,by decide +kernel,by decide +kernel⟩
theorem zkq:LN .local s_law_many_namings "_law_made":=by decide +kernel
theorem zkr:LN .local s_law_many_namings "_law_many":=by decide +kernel
theorem zks:LN .local s_law_many_namings "_law_size":=by decide +kernel
def spManyL:Sp:=fun vs H Q _=>∃ (a:Addr) (ns:List Nat),vs=[.ref a]∧H a=some (.lst (ns.map iV))∧(∀ n∈ns,n≤4)∧ns.length≤4∧∀ H',Same H H'→Q (.int (prodN ns:Nat)) H'
theorem ok_manyL (F:FunAt K mg "_law_many_namings" s_law_many_namings ["_law_size"]) (Z:Bl mg):Def P w K mg base "_law_many_namings" 1 ["_law_size"] spManyL:=by
 have SC:=zkp
 refine F.mk' (k:=0) zkp (fun vs H Q E h=>?_) (fun f cdv A outer s H vs Q E hr h=>?_)
 ·obtain⟨a,ns,rfl,_⟩:=h
  rfl
 ·obtain⟨a,ns,rfl,ha,n4,nl,q⟩:=h
  have p4:∀ i,prodN (ns.take i)≤331776:=fun i=>Nat.le_trans (prodN_take ns i) (Nat.le_trans (prodN_le ns) (Nat.le_trans (Nat.pow_le_pow_right (by decide) nl) (by decide)))
  refine'⟨_,?derivation,?_⟩
  case derivation=>refine' pss_cons ?Aa ?Ba;(case Aa=>refine' ps_set (i:=1) (x:=Str.ofString "_law_made") ?Ca ?Da ?Ea ?Fa ?Ga ?Ha;(case Ca=>exact SC.nd);(case Da=>exact rfl);(case Ea=>exact(Or.inl zkq));(case Fa=>exact pe_int);(case Ga=>rfl);case Ha=>exact .inl rfl);case Ba=>refine' pss_cons ?Ia ?Ja;(case Ia=>refine' ps_for PassesOwn.never rfl ?Ka ?La ?Ma ?Na;(case Ka=>refine' pi_list (pq 0 (visL zks) zkf zkg));(case La=>refine' pg_name (i:=2) (x:=Str.ofString "_law_many") SC.nd rfl (Or.inl zkr) (.inl rfl));(case Ma=>refine' pss_one ?Oa;case Oa=>refine' ps_set (i:=1) (x:=Str.ofString "_law_made") ?Pa ?Qa ?Ra ?Sa ?Ta ?Ua;(case Pa=>exact SC.nd);(case Qa=>exact rfl);(case Ra=>exact(Or.inl zkq));(case Sa=>refine' pe_op op_mul (pq 1 (visL zkq) zj8 zj9) ?Va;case Va=>refine' pe_ix ix_list ?Wa (pq 2 (visL zkr) zbj zbk) ?Xa;(case Wa=>refine' pe_lst ?Ya;case Ya=>refine' pa_cons ?Za ?Ab ?Bb;(case Za=>exact pe_int);(case Ab=>refine' pa_cons ?Cb ?Db ?Eb;(case Cb=>exact pe_int);(case Db=>refine' pa_cons ?Fb ?Gb ?Hb;(case Fb=>exact pe_int);(case Gb=>refine' pa_cons ?Ib ?Jb ?Kb;(case Ib=>exact pe_int);(case Jb=>refine' pa_cons ?Lb pa_nil ?Mb;(case Lb=>exact pe_int);case Mb=>rfl);case Kb=>rfl);case Hb=>rfl);case Eb=>rfl);case Bb=>rfl);case Xa=>intro _ _;exact rfl);(case Ta=>rfl);case Ua=>exact .inl rfl);case Na=>intro _; rfl);case Ja=>refine' pss_one ?Nb;case Nb=>refine' ps_ret (pq 1 (visL zkq) zj8 zj9)
  refine⟨_,rfl,a,rfl,⟨_,SqL.of ha⟩,for_list (xs:=ns.map iV) (fun i σ H2=>Same H H2∧∃ v2,σ=[some (.ref a),some (.int (prodN (ns.take i):Nat)),v2]) ⟨Same.refl _,none,rfl⟩ (fun i σ H2 _ ⟨z,_⟩=>SqL.of (z _ _ ha)) ?_ ?_⟩
  ·rintro i y σ H2 hi ⟨s2,v2,rfl⟩
   rw [List.getElem?_map] at hi
   obtain⟨n,hn,rfl⟩:=Option.map_eq_some_iff.mp hi
   refine⟨_,rfl,by show 5≤sizeLine; decide,fun p hp=>⟨_,rfl,p,_,n,_,rfl,rfl,SqL.of upd_same,at_fact (n4 n (List.mem_of_getElem? hn)),_,_,rfl,rfl,.inl ⟨by omega,?_⟩,s2.trans (same_new hp _),some (iV n),?_⟩⟩
   ·have:=p4 i
    show ((prodN (ns.take i):Nat):Int)<2 ^ 64
    omega
   ·rw [List.take_succ,hn]
    show _=[_,some (V.int (prodN (ns.take i++[n]):Nat)),_]
    rw [prodN_snoc,Int.natCast_mul]
    rfl
  ·rintro σ H2 ⟨s2,v2,rfl⟩
   rw [List.length_map,List.take_length]
   exact⟨_,rfl,q H2 s2⟩
abbrev s_law_orders:Stmt:=top 47
theorem zkt:FnScope ["_law_many","_law_made","_law_k","_law_longer","_law_order"] ["_law_many"] (defScope s_law_orders):=⟨rfl,rfl,rfl,by decide +kernel,rfl,by decide +kernel,by decide +kernel⟩
theorem zku:LN .local s_law_orders "_law_k":=by decide +kernel
theorem zkv:LN .local s_law_orders "_law_longer":=by decide +kernel
theorem zkw:LN .local s_law_orders "_law_made":=by decide +kernel
theorem zkx:LN .local s_law_orders "_law_many":=by decide +kernel
theorem zky:LN .cell s_law_orders "_law_order":=by decide +kernel
theorem zkz:LN .globalImplicit s_law_orders "range":=by decide +kernel
abbrev QS12:Scope:={kind:=PySem.ScopeKind.function,names:=[ (PySem.Str.ofString ".0",PySem.NameKind.local),(PySem.Str.ofString "_law_thing",PySem.NameKind.local),(PySem.Str.ofString "_law_order",PySem.NameKind.free)],isGenerator:=false,isCoroutine:=false,more:=[]:PySem.Scope}
theorem zk0:CompSc 1 ["_law_thing","_law_many","_law_made","_law_k","_law_longer","_law_order"] ["_law_many","_law_made","_law_k","_law_longer","_law_order"] (defScope s_law_orders) QS12:=⟨rfl,by decide +kernel,by decide +kernel,by decide +kernel,by decide +kernel,rfl,by decide +kernel⟩
theorem zk1:LC .free QS12 "_law_order":=by decide +kernel
theorem zk2:LC .local QS12 "_law_thing":=by decide +kernel
def spLOrd:Sp:=fun vs H Q _=>∃ n:Nat,vs=[.int n]∧n≤4∧∀ l as H',H l=none→H' l=some (.lst (as.map V.ref))→LstsIn H' as (ordN n)→(∀ x∈as,H x=none)→Same H H'→Q (.ref l) H'
theorem ok_lord (F:FunAt K mg "_law_orders" s_law_orders ["_law_many"]) (Z:Bl mg):Def P w K mg base "_law_orders" 1 ["_law_many"] spLOrd:=by
 have SC:=zkt
 refine F.mk' (k:=0) zkt (fun vs H Q E h=>?_) (fun f cdv A outer s H vs Q E hr h=>?_)
 ·obtain⟨n,rfl,_⟩:=h
  rfl
 ·obtain⟨n,rfl,h4,q⟩:=h
  refine'⟨_,?derivation,?_⟩
  case derivation=>refine' pss_cons ?Aa ?Ba;(case Aa=>refine' ps_set (i:=1) (x:=Str.ofString "_law_made") ?Ca ?Da ?Ea ?Fa ?Ga ?Ha;(case Ca=>exact SC.nd);(case Da=>exact rfl);(case Ea=>exact(Or.inl zkw));(case Fa=>refine' pe_lst ?Ia;case Ia=>refine' pa_cons ?Ja pa_nil ?Ka;(case Ja=>refine' pe_lst pa_nil);case Ka=>rfl);(case Ga=>rfl);case Ha=>exact .inl rfl);case Ba=>refine' pss_cons ?La ?Ma;(case La=>refine' ps_for PassesOwn.never rfl ?Na ?Oa ?Pa ?Qa;(case Na=>refine' pi_range1 zkz Z.n_range ?Ra rfl;case Ra=>refine' pa_cons (pq 0 (visL zkx) zbj zbk) pa_nil ?Sa;case Sa=>rfl);(case Oa=>refine' pg_name (i:=2) (x:=Str.ofString "_law_k") SC.nd rfl (Or.inl zku) (.inl rfl));(case Pa=>refine' pss_cons ?Ta ?Ua;(case Ta=>refine' ps_set (i:=3) (x:=Str.ofString "_law_longer") ?Va ?Wa ?Xa ?Ya ?Za ?Ab;(case Va=>exact SC.nd);(case Wa=>exact rfl);(case Xa=>exact(Or.inl zkv));(case Ya=>refine' pe_lst pa_nil);(case Za=>rfl);case Ab=>exact .inl rfl);case Ua=>refine' pss_cons ?Bb ?Cb;(case Bb=>refine' ps_for PassesOwn.never rfl ?Db ?Eb ?Fb ?Gb;(case Db=>refine' pi_list (pq 1 (visL zkw) zj8 zj9));(case Eb=>refine' pg_name (i:=4) (x:=Str.ofString "_law_order") SC.nd rfl (Or.inr zky) (.inl rfl));(case Fb=>refine' pss_one ?Hb;case Hb=>refine' ps_expr ?Ib rfl;case Ib=>refine' pe_bm PySem.F.plainAttrs_list PySem.F.slot_list_extend PySem.F.type_list_extend mt_extend (pq 3 (visL zkv) zj6 zj7) ?Jb rfl rfl rfl rfl rfl;case Jb=>refine' pa_cons ?Kb pa_nil ?Lb;(case Kb=>refine' pe_compG framed_of rfl zk0.at ?Mb ?Nb ?Ob ?Pb ?Qb;(case Mb=>refine' pi_range1 zkz Z.n_range ?Rb rfl;case Rb=>refine' pa_cons (pq 0 (visL zkx) zbj zbk) pa_nil ?Sb;case Sb=>rfl);(case Nb=>intro _ _ _ _ _;refine' pg_name (i:=0) zk0.nd rfl (locO zk2) (.inr (lookup_relabel_local zk2)));(case Ob=>intro _ _ _ _ _;refine' pt_cmpR op_notIn_seq (pq 0 (visO zk2) zkh zki) (pq 5 (visF zk1) zkc zkd) (by with_unfolding_all rfl));(case Pb=>intro _ _ _ _ _;refine' pe_op op_cat (pq 5 (visF zk1) zkc zkd) ?Tb;case Tb=>refine' pe_lst ?Ub;case Ub=>refine' pa_cons (pq 0 (visO zk2) zkh zki) pa_nil ?Vb;case Vb=>rfl);case Qb=>intro _; rfl);case Lb=>rfl);case Gb=>intro _; rfl);case Cb=>refine' pss_one ?Wb;case Wb=>refine' ps_set (i:=1) (x:=Str.ofString "_law_made") ?Xb ?Yb ?Zb ?Ac ?Bc ?Cc;(case Xb=>exact SC.nd);(case Yb=>exact rfl);(case Zb=>exact(Or.inl zkw));(case Ac=>exact(pq 3 (visL zkv) zj6 zj7));(case Bc=>rfl);case Cc=>exact .inl rfl);case Qa=>intro _; rfl);case Ma=>refine' pss_one ?Dc;case Dc=>refine' ps_ret (pq 1 (visL zkw) zj8 zj9)
  refine⟨by show 0≤sizeLine; decide,fun t ht=>⟨by show 1≤sizeLine; decide,fun l0 hl0=>?_⟩⟩
  have s1:Same H (upd (upd H t (.lst [])) l0 (.lst [.ref t])):=(same_new ht _).trans (same_new hl0 _)
  have et:(upd (upd H t (.lst [])) l0 (.lst [.ref t])) t=some (.lst []):=same_new hl0 _ _ _ upd_same
  have el:(upd (upd H t (.lst [])) l0 (.lst [.ref t])) l0=some (.lst [.ref t]):=upd_same
  have fl:H l0=none:=(same_new ht (.lst [])).free hl0
  generalize (upd (upd H t (.lst [])) l0 (.lst [.ref t]))=G at s1 et el
  refine⟨_,rfl,n,rfl,by omega,by omega,for_range (n:=(n:Int).toNat) (fun i σ H2=>∃ (l:Addr) (as:List Addr) (v2 v3 v4:Option V),σ=[some (.int n),some (.ref l),v2,v3,v4]∧Same H H2∧H l=none∧H2 l=some (.lst (as.map V.ref))∧LstsIn H2 as (ordK n i)∧∀ x∈as,H x=none)
   ⟨l0,[t],none,none,none,rfl,s1,fl,el,.cons et .nil,fun x hx=>by rw [List.mem_singleton.mp hx]; exact ht⟩ ?_ ?_⟩
  ·rintro i σ H2 hi ⟨l,as,v2,v3,v4,rfl,s2,hl,el,hr2,fr⟩
   rw [Int.toNat_natCast] at hi
   have rsl:(ordK n i).length≤24:=ordK_small h4 (by omega)
   have rlen:∀ r∈ordK n i,r.length=i:=fun r hr=>ordK_len hr
   have enx:ordK n (i+1)=(ordK n i).flatMap (ext1 n):=rfl
   generalize ordK n i=rs at rsl rlen enx hr2
   have asl:as.length=rs.length:=Paired.length hr2
   refine⟨by show 0≤sizeLine; decide,fun L hL=>?_⟩
   have s3:=same_new hL (.lst [])
   refine⟨_,rfl,l,rfl,⟨_,SqL.of (s3 _ _ el)⟩,for_list (xs:=as.map V.ref) (fun i' σ H3=>∃ (bs:List Addr) (v2 v4:Option V),σ=[some (.int n),some (.ref l),v2,some (.ref L),v4]∧Same H2 H3∧H3 L=some (.lst (bs.map V.ref))∧LstsIn H3 bs ((rs.take i').flatMap (ext1 n))∧∀ x∈bs,H x=none∧x≠L)
    ⟨[],_,_,rfl,s3,upd_same,.nil,fun _ z=>(nomatch z)⟩ (fun i' σ H3 _ ⟨_,_,_,_,z,_⟩=>SqL.of (z _ _ el)) ?_ ?_⟩
   ·rintro i' x σ H3 hx ⟨bs,w2,w4,rfl,s3,eL,r3,fr3⟩
    rw [List.getElem?_map] at hx
    obtain⟨ra,hra,rfl⟩:=Option.map_eq_some_iff.mp hx
    obtain⟨r,hr',er⟩:=Paired.at hr2 hra
    have rl:=rlen r (List.mem_of_getElem? hr')
    have bsl:bs.length≤96:=by
     rw [Paired.length r3]
     refine Nat.le_trans (ext_many h4 _) ?_
     rw [List.length_take]
     omega
    have esucc:(rs.take (i'+1)).flatMap (ext1 n)=(rs.take i').flatMap (ext1 n)++ext1 n r:=by
     rw [List.take_succ,hr',List.flatMap_append]
     simp
    refine⟨_,rfl,.inl ⟨rfl,_,SqL.of eL⟩,_,rfl,n,rfl,by omega,by omega,fun cl C ex s0 Hc=>?_⟩
    refine compF_it n (fun j zs H4=>∃ cs:List Addr,zs=cs.map V.ref∧Same H3 H4∧j≤n∧LstsIn H4 cs ((((upN n).take j).filter fun t=>!r.contains t).map fun t=>r++[t])∧∀ x∈cs,H3 x=none) (fun j y=>y=.int (0+(j:Int))) ⟨[],rfl,Same.refl _,Nat.zero_le _,.nil,fun _ z=>(nomatch z)⟩ ?_ ?_ ?_ ?_ ?_ ?_
    ·rintro j zs H4 hj ⟨cs,rfl,s4,_,r4,_⟩
     have e:=Paired.length r4
     have e5:=List.length_filter_le (fun t=>!r.contains t) ((upN n).take j)
     rw [List.length_take] at e5
     rw [List.length_map] at e
     rw [List.length_map]
     exact Nat.lt_of_le_of_lt (show cs.length≤200 by omega) (by decide)
    ·rintro j zs H4 hj _
     exact go_rng (lo:=0) (n:=(n:Int).toNat) (by omega)
    ·rintro zs H4 _
     have:=stop_rng (lo:=0) (n:=(n:Int).toNat) (H:=H4)
     rwa [Int.toNat_natCast] at this ⊢
    ·rintro j y zs H4 hj rfl ⟨cs,rfl,s4,_,r4,f4⟩
     have eN:(upN n).take (j+1)=(upN n).take j++[(j:Int)]:=by
      rw [List.take_succ,upN_get hj]; rfl
     refine⟨_,rfl,_,rfl,ra,_,rfl,.inl (SqL.of (s4 _ _ (s3 _ _ er))),rfl,flat_ints r,_,rfl,?_⟩
     show if (!inV (.int (0+(j:Int))) (r.map V.int))=true then _ else _
     rw [inV_int,Int.zero_add]
     by_cases hc:r.contains (j:Int)=true
     ·rw [hc]
      refine ifF (by decide) ⟨cs,rfl,s4,hj,?_,f4⟩
      rw [eN,List.filter_append]
      simp only [List.filter_cons,hc]
      simpa using r4
     ·have hc:r.contains (j:Int)=false:=by simpa using hc
      rw [hc]
      refine ifT rfl ?_
      refine⟨_,rfl,_,rfl,by show 1≤sizeLine; decide,fun p hp=>?_⟩
      have s5:=same_new hp (.lst [V.int (j:Int)])
      refine⟨ra,p,_,_,rfl,rfl,s5 _ _ (s4 _ _ (s3 _ _ er)),upd_same,Nat.le_trans (show _≤100 from ?_) (by decide),fun p2 hp2=>⟨cs++[p2],by simp,s4.trans (s5.trans (same_new hp2 _)),hj,?_,?_⟩⟩
      ·rw [List.length_map,rl]
       show i+1≤100
       omega
      ·rw [eN,List.filter_append]
       simp only [List.filter_cons,hc]
       rw [List.map_append]
       refine Paired.app (Paired.mapP r4 fun a r e=>(s5.trans (same_new hp2 _)) _ _ e) (.cons ?_ .nil)
       rw [upd_same,List.map_append]
       simp
      ·intro x hx
       rcases List.mem_append.mp hx with h | h
       ·exact f4 x h
       ·rw [List.mem_singleton.mp h]; exact(s4.trans s5).free hp2
    ·rintro zs H4 ⟨cs,rfl,s4,_,r4,f4⟩ D hD
     rw [List.take_of_length_le (l:=upN n) (by rw [upN_length]; exact Nat.le_refl _)] at r4
     have s5:=s4.trans (same_new hD (.lst (cs.map V.ref)))
     have csl:cs.length≤4:=by
      have e:=Paired.length r4
      rw [List.length_map] at e
      rw [e]
      exact Nat.le_trans (List.length_filter_le _ _) (by rw [upN_length]; exact h4)
     refine⟨L,D,_,_,rfl,rfl,s5 _ _ eL,upd_same,Nat.le_trans (show _≤200 by rw [List.length_map,List.length_map]; omega) (by decide),bs++cs,_,_,rfl,?_,?_,?_,?_⟩
     ·intro b o hb
      have nb:b≠L:=fun z=>by rw [z,hL] at hb; cases hb
      rw [upd_ne nb]
      exact s5 _ _ (s3 _ _ hb)
     ·rw [upd_same,List.map_append]
     ·rw [esucc]
      refine Paired.app (lsts_put (fun x hx=>(fr3 x hx).2) (Paired.mapP r3 fun a r e=>s5 _ _ e)) (lsts_put (fun x hx z=>?_) (Paired.mapP r4 fun a r e=>same_new hD _ _ _ e))
      rw [z] at hx
      rw [f4 L hx] at eL; cases eL
     ·intro x hx
      rcases List.mem_append.mp hx with h | h
      ·exact fr3 x h
      ·refine⟨(s2.trans s3).free (f4 x h),fun z=>?_⟩
       rw [z] at h
       rw [f4 L h] at eL; cases eL
    ·rintro σ H Q Q' ⟨v,h1,u,h2,p,xs,e1,e2,e3,e4,c,e5,hq⟩ k
     exact⟨v,h1,u,h2,p,xs,e1,e2,e3,e4,c,e5,k _ _ hq⟩
   ·rintro σ H3 ⟨bs,w2,w4,rfl,s3,eL,r3,fr3⟩
    rw [List.length_map,asl,List.take_length,← enx] at r3
    exact⟨_,rfl,L,bs,_,_,_,rfl,s2.trans s3,s2.free hL,eL,r3,fun x hx=>(fr3 x hx).1⟩
  ·rintro σ H2 ⟨l,as,v2,v3,v4,rfl,s2,hl,el,hr2,fr⟩
   rw [Int.toNat_natCast] at hr2
   exact⟨_,rfl,q l as H2 hl el hr2 fr s2⟩
abbrev s_law_all_namings:Stmt:=top 48
theorem zk3:FnScope ["_law_size","_law_made","_law_many","_law_longer","_law_naming"] ["_law_size"] (defScope s_law_all_namings):=⟨rfl,rfl,rfl,by decide +kernel,rfl,by decide +kernel,by decide +kernel⟩
theorem zk4:LN .local s_law_all_namings "_law_longer":=by decide +kernel
theorem zk5:LN .local s_law_all_namings "_law_made":=by decide +kernel
theorem zk6:LN .local s_law_all_namings "_law_many":=by decide +kernel
theorem zk7:LN .cell s_law_all_namings "_law_naming":=by decide +kernel
theorem zk8:LN .globalImplicit s_law_all_namings "_law_orders":=by decide +kernel
theorem zk9:LN .local s_law_all_namings "_law_size":=by decide +kernel
abbrev QS13:Scope:={kind:=PySem.ScopeKind.function,names:=[ (PySem.Str.ofString ".0",PySem.NameKind.local),(PySem.Str.ofString "_law_order",PySem.NameKind.local),(PySem.Str.ofString "_law_naming",PySem.NameKind.free)],isGenerator:=false,isCoroutine:=false,more:=[]:PySem.Scope}
theorem zla:CompSc 1 ["_law_order","_law_size","_law_made","_law_many","_law_longer","_law_naming"] ["_law_size","_law_made","_law_many","_law_longer","_law_naming"] (defScope s_law_all_namings) QS13:=⟨rfl,by decide +kernel,by decide +kernel,by decide +kernel,by decide +kernel,rfl,by decide +kernel⟩
theorem zlb:LC .free QS13 "_law_naming":=by decide +kernel
theorem zlc:LC .local QS13 "_law_order":=by decide +kernel
def spLAll:Sp:=fun vs H Q _=>∃ (a:Addr) (ns:List Nat),vs=[.ref a]∧H a=some (.lst (ns.map iV))∧(∀ n∈ns,n≤4)∧ns.length≤4∧prodN ns≤576∧∀ l ts H',H' l=some (.lst (ts.map V.ref))→NamsL H' ts (allN ns)→Same H H'→Q (.ref l) H'
theorem ok_lall (F:FunAt K mg "_law_all_namings" s_law_all_namings ["_law_size"]) (Z:Bl mg) (D_law_orders:Def P w K mg base "_law_orders" 1 ["_law_many"] spLOrd):Def P w K mg base "_law_all_namings" 2 ["_law_size"] spLAll:=by
 have SC:=zk3
 refine F.mk' (k:=1) zk3 (fun vs H Q E h=>?_) (fun f cdv A outer s H vs Q E hr h=>?_)
 ·obtain⟨a,ns,rfl,_⟩:=h
  rfl
 ·obtain⟨a,ns,rfl,ha,n4,nl,np,q⟩:=h
  refine'⟨_,?derivation,?_⟩
  case derivation=>refine' pss_cons ?Aa ?Ba;(case Aa=>refine' ps_set (i:=1) (x:=Str.ofString "_law_made") ?Ca ?Da ?Ea ?Fa ?Ga ?Ha;(case Ca=>exact SC.nd);(case Da=>exact rfl);(case Ea=>exact(Or.inl zk5));(case Fa=>refine' pe_lst ?Ia;case Ia=>refine' pa_cons ?Ja pa_nil ?Ka;(case Ja=>refine' pe_lst pa_nil);case Ka=>rfl);(case Ga=>rfl);case Ha=>exact .inl rfl);case Ba=>refine' pss_cons ?La ?Ma;(case La=>refine' ps_for PassesOwn.never rfl ?Na ?Oa ?Pa ?Qa;(case Na=>refine' pi_list (pq 0 (visL zk9) zkf zkg));(case Oa=>refine' pg_name (i:=2) (x:=Str.ofString "_law_many") SC.nd rfl (Or.inl zk6) (.inl rfl));(case Pa=>refine' pss_cons ?Ra ?Sa;(case Ra=>refine' ps_set (i:=3) (x:=Str.ofString "_law_longer") ?Ta ?Ua ?Va ?Wa ?Xa ?Ya;(case Ta=>exact SC.nd);(case Ua=>exact rfl);(case Va=>exact(Or.inl zk4));(case Wa=>refine' pe_lst pa_nil);(case Xa=>rfl);case Ya=>exact .inl rfl);case Sa=>refine' pss_cons ?Za ?Ab;(case Za=>refine' ps_for PassesOwn.never rfl ?Bb ?Cb ?Db ?Eb;(case Bb=>refine' pi_list (pq 1 (visL zk5) zj8 zj9));(case Cb=>refine' pg_name (i:=4) (x:=Str.ofString "_law_naming") SC.nd rfl (Or.inr zk7) (.inl rfl));(case Db=>refine' pss_one ?Fb;case Fb=>refine' ps_expr ?Gb rfl;case Gb=>refine' pe_bm PySem.F.plainAttrs_list PySem.F.slot_list_extend PySem.F.type_list_extend mt_extend (pq 3 (visL zk4) zj6 zj7) ?Hb rfl rfl rfl rfl rfl;case Hb=>refine' pa_cons ?Ib pa_nil ?Jb;(case Ib=>refine' pe_comp noxe rfl zla.at ?Kb ?Lb ?Mb ?Nb;(case Kb=>refine' pi_list ?Ob;case Ob=>refine' pe_def (hdb:=zke) D_law_orders (hr.mono (by decide)) zk8 ?Pb rfl rfl;case Pb=>refine' pa_cons (pq 2 (visL zk6) zbj zbk) pa_nil ?Qb;case Qb=>rfl);(case Lb=>intro _ _ _ _ _;refine' pg_name (i:=0) zla.nd rfl (locO zlc) (.inr (lookup_relabel_local zlc)));(case Mb=>intro _ _ _ _ _;refine' pe_op op_cat (pq 5 (visF zlb) zka zkb) ?Rb;case Rb=>refine' pe_lst ?Sb;case Sb=>refine' pa_cons (pq 0 (visO zlc) zkc zkd) pa_nil ?Tb;case Tb=>rfl);case Nb=>intro _; rfl);case Jb=>rfl);case Eb=>intro _; rfl);case Ab=>refine' pss_one ?Ub;case Ub=>refine' ps_set (i:=1) (x:=Str.ofString "_law_made") ?Vb ?Wb ?Xb ?Yb ?Zb ?Ac;(case Vb=>exact SC.nd);(case Wb=>exact rfl);(case Xb=>exact(Or.inl zk5));(case Yb=>exact(pq 3 (visL zk4) zj6 zj7));(case Zb=>rfl);case Ac=>exact .inl rfl);case Qa=>intro _; rfl);case Ma=>refine' pss_one ?Bc;case Bc=>refine' ps_ret (pq 1 (visL zk5) zj8 zj9)
  refine⟨by show 0≤sizeLine; decide,fun t ht=>⟨by show 1≤sizeLine; decide,fun l0 hl0=>?_⟩⟩
  have s1:Same H (upd (upd H t (.lst [])) l0 (.lst [.ref t])):=(same_new ht _).trans (same_new hl0 _)
  have et:(upd (upd H t (.lst [])) l0 (.lst [.ref t])) t=some (.lst []):=same_new hl0 _ _ _ upd_same
  have el:(upd (upd H t (.lst [])) l0 (.lst [.ref t])) l0=some (.lst [.ref t]):=upd_same
  generalize (upd (upd H t (.lst [])) l0 (.lst [.ref t]))=G at s1 et el
  have al:∀ i,(allN (ns.take i)).length≤576:=fun i=>by
   rw [allN_length fun n hn=>n4 n (List.mem_of_mem_take hn)]
   exact Nat.le_trans (prodN_take ns i) np
  refine⟨_,rfl,a,rfl,⟨_,SqL.of (s1 _ _ ha)⟩,for_list (xs:=ns.map iV) (fun i σ H2=>∃ (l:Addr) (ts:List Addr) (v2 v3 v4:Option V),σ=[some (.ref a),some (.ref l),v2,v3,v4]∧Same H H2∧H2 l=some (.lst (ts.map V.ref))∧NamsL H2 ts (allN (ns.take i)))
   ⟨l0,[t],none,none,none,rfl,s1,el,.cons ⟨[],et,.nil⟩ .nil⟩ (fun i σ H2 _ ⟨_,_,_,_,_,_,z,_⟩=>SqL.of (z _ _ ha)) ?_ ?_⟩
  ·rintro i y σ H2 hi ⟨l,ts,v2,v3,v4,rfl,s2,el,hr2⟩
   rw [List.getElem?_map] at hi
   obtain⟨n,hn,rfl⟩:=Option.map_eq_some_iff.mp hi
   have e4:=n4 n (List.mem_of_getElem? hn)
   have ani:(allN (ns.take i)).length≤576:=al i
   have nx:allN (ns.take (i+1))=growN n (allN (ns.take i)):=by rw [List.take_succ,hn,← allN_snoc]; rfl
   have nlen:∀ r∈allN (ns.take i),r.length≤4:=fun r hr=>by rw [allN_len hr,List.length_take]; omega
   generalize allN (ns.take i)=nm at ani nx nlen hr2
   have tsl:ts.length=nm.length:=Paired.length hr2
   refine⟨by show 0≤sizeLine; decide,fun L hL=>?_⟩
   have s3:=same_new hL (.lst [])
   refine⟨_,rfl,l,rfl,⟨_,SqL.of (s3 _ _ el)⟩,for_list (xs:=ts.map V.ref) (fun i' σ H3=>∃ (bs:List Addr) (v4:Option V),σ=[some (.ref a),some (.ref l),some (.int n),some (.ref L),v4]∧Same H2 H3∧H3 L=some (.lst (bs.map V.ref))∧NamsX L H3 bs (growN n (nm.take i')))
    ⟨[],_,rfl,s3,upd_same,.nil⟩ (fun i' σ H3 _ ⟨_,_,_,z,_⟩=>SqL.of (z _ _ el)) ?_ ?_⟩
   ·rintro i' x σ H3 hx ⟨bs,w4,rfl,s3,eL,r3⟩
    rw [List.getElem?_map] at hx
    obtain⟨ra,hra,rfl⟩:=Option.map_eq_some_iff.mp hx
    obtain⟨r,hr',os,eo,ro⟩:=Paired.at hr2 hra
    have rl:=nlen r (List.mem_of_getElem? hr')
    have osl:os.length=r.length:=Paired.length ro
    have nos:∀ o∈os,o≠L:=fun o ho z=>lsts_there ro o ho (z▸hL)
    have bsl:bs.length≤13824:=by
     rw [Paired.length r3,growN_length e4,List.length_take]
     exact Nat.le_trans (Nat.mul_le_mul (Nat.le_trans (Nat.min_le_right _ _) ani) (fact4_le n).2) (by decide)
    have esucc:growN n (nm.take (i'+1))=growN n (nm.take i')++(ordN n).map fun o=>r++[o]:=by
     rw [List.take_succ,hr']
     unfold growN
     rw [List.flatMap_append]
     simp
    refine⟨_,rfl,.inl ⟨rfl,_,SqL.of eL⟩,_,rfl,n,rfl,e4,fun lo as H4 flo elo rlo fa s4=>⟨lo,rfl,⟨_,SqL.of elo⟩,fun cl C ex s0 Hc=>?_⟩⟩
    have nLx:∀ x,H3 x=none→x≠L:=fun x hx z=>by rw [z] at hx; rw [hx] at eL; cases eL
    have asl:as.length=(ordN n).length:=Paired.length rlo
    have as24:as.length≤24:=by rw [asl,ordN_many e4]; exact(fact4_le n).2
    have s34:=s3.trans s4
    refine comp_it1 as.length (fun j zs H5=>∃ cs:List Addr,zs=cs.map V.ref∧Same H4 H5∧NamsX L H5 cs (((ordN n).take j).map fun o=>r++[o])) (fun j y=>(as.map V.ref)[j]? = some y) ⟨[],rfl,Same.refl _,.nil⟩ (Nat.le_trans as24 (by decide))
     (fun j ys H5 hj _ ⟨_,_,s5,_⟩=>go_list (SqL.of (s5 _ _ elo)) (by rw [List.length_map]; exact hj)) (fun ys H5 _ ⟨_,_,s5,_⟩=>by have:=stop_list (K:=K) (SqL.of (K:=K) (s5 _ _ elo)); rw [List.length_map] at this; exact this) ?_ ?_
    ·rintro j y zs H5 hj hy hzl ⟨cs,rfl,s5,r5⟩
     rw [List.getElem?_map] at hy
     obtain⟨oa,hoa,rfl⟩:=Option.map_eq_some_iff.mp hy
     obtain⟨o,ho,eoa⟩:=Paired.at rlo hoa
     refine⟨_,rfl,_,rfl,by show 1≤sizeLine; decide,fun p hp=>?_⟩
     have s6:=same_new hp (.lst [V.ref oa])
     refine⟨ra,p,_,_,rfl,rfl,s6 _ _ (s5 _ _ (s34 _ _ eo)),upd_same,Nat.le_trans (show _≤100 from ?_) (by decide),fun p2 hp2=>⟨cs++[p2],by simp,s5.trans (s6.trans (same_new hp2 _)),?_⟩⟩
     ·rw [List.length_map,osl]
      show r.length+1≤100
      omega
     ·have sA:=s6.trans (same_new hp2 (.lst (os.map V.ref++[V.ref oa])))
      rw [List.take_succ,ho]
      show NamsX L _ _ (((ordN n).take j++[o]).map _)
      rw [List.map_append]
      refine Paired.app (NamsX.same sA r5) (.cons ⟨nLx p2 ((s4.trans (s5.trans s6)).free hp2),os++[oa],fun x hx=>?_,?_,?_⟩ .nil)
      ·rcases List.mem_append.mp hx with h | h
       ·exact nos x h
       ·rw [List.mem_singleton.mp h]; exact nLx oa (fa oa (List.mem_of_getElem? hoa))
      ·rw [upd_same,List.map_append]; rfl
      ·exact Paired.app (Paired.mapP ro fun _ _ e=>sA _ _ (s5 _ _ (s34 _ _ e))) (.cons (sA _ _ (s5 _ _ eoa)) .nil)
    ·rintro zs H5 hzl ⟨cs,rfl,s5,r5⟩ D hD
     rw [asl,List.take_length] at r5
     have s6:=s5.trans (same_new hD (.lst (cs.map V.ref)))
     have s46:=s4.trans s6
     have csl:cs.length≤24:=by rw [List.length_map] at hzl; omega
     refine⟨L,D,_,_,rfl,rfl,s46 _ _ eL,upd_same,Nat.le_trans (show _≤14000 by rw [List.length_map,List.length_map]; omega) (by decide),bs++cs,_,rfl,?_,?_,?_⟩
     ·intro b o hb
      have nb:b≠L:=fun z=>by rw [z,hL] at hb; cases hb
      rw [upd_ne nb]
      exact s46 _ _ (s3 _ _ hb)
     ·rw [upd_same,List.map_append]
     ·rw [esucc]
      exact Paired.app (NamsX.put (NamsX.same s46 r3)) (NamsX.put (NamsX.same (same_new hD _) r5))
   ·rintro σ H3 ⟨bs,w4,rfl,s3,eL,r3⟩
    rw [List.length_map,tsl,List.take_length,← nx] at r3
    exact⟨_,rfl,L,bs,_,_,_,rfl,s2.trans s3,eL,r3.out⟩
  ·rintro σ H2 ⟨l,ts,v2,v3,v4,rfl,s2,el,hr2⟩
   rw [List.length_map,List.take_length] at hr2
   exact⟨_,rfl,q l ts H2 el hr2 s2⟩
end
end Few
namespace L2
open PySem PySem.Spec PyProof.Rows
section
variable {X:Cx}
theorem bools_vals:∀ {bs:List Bool} {us:List Value},Vals (bs.map V.bl) us→us=bs.map Value.bool
 | [],_,.nil=>rfl
 | b::r,_,.cons a h=>by
  obtain rfl:=(show _=Value.bool b from a)
  rw [List.map_cons,bools_vals h]
theorem mt_countB:MtR X "list.count" (fun x xs H Q=>∃ (p:Addr) (bs:List Bool) (k:Bool),x=.ref p∧xs=[.bl k]∧SqL X.K H p (bs.map V.bl)∧Q (.int (bs.count k:Nat)) H):=by
 intro pins s σ H x xs v us Q I rx rs h
 obtain⟨p,bs,k,rfl,rfl,hq,q⟩:=h
 cases rx
 obtain⟨u,rfl,rfl⟩:=vals1 rs
 obtain⟨its,r',pl,hz⟩:=I.list hq
 obtain⟨⟨cls,dd,data,sl⟩,ho,hc,n,hd⟩:=pl.isList
 simp only at hc hd
 subst hc hd
 obtain rfl:=bools_vals r'
 refine call_meets PySem.F.slot_list_count ⟨_,ho,rfl⟩ PySem.F.entry_list_count (PySem.F.args_list_count_2 _ _) (SeqAt.list_countAt p _ n dd sl (.bool k) (isBoolOf k)) ⟨ho,fun y hy=>?_,⟨.int (bs.count k:Nat),H,I.tok _,⟨s.toks,?_⟩,q⟩⟩
 ·have hy':y∈bs.map Value.bool:=by simpa using hy
  obtain⟨b,_,rfl⟩:=List.mem_map.mp hy'
  exact SeqAt.EqAt.bool_bool b k
 ·congr 2
  show List.countP (isBoolOf k) (bs.map Value.bool)=_
  rw [List.countP_map]
  rfl
theorem mt_indexB:MtR X "list.index" (fun x xs H Q=>∃ (p:Addr) (bs:List Bool) (k:Bool),x=.ref p∧xs=[.bl k]∧SqL X.K H p (bs.map V.bl)∧k∈bs∧Q (.int (bs.idxOf k:Nat)) H):=by
 intro pins s σ H x xs v us Q I rx rs h
 obtain⟨p,bs,k,rfl,rfl,hq,hk,q⟩:=h
 cases rx
 obtain⟨u,rfl,rfl⟩:=vals1 rs
 obtain⟨its,r',pl,hz⟩:=I.list hq
 obtain⟨⟨cls,dd,data,sl⟩,ho,hc,n,hd⟩:=pl.isList
 simp only at hc hd
 subst hc hd
 obtain rfl:=bools_vals r'
 rw [List.length_map] at hz
 have hj:bs.idxOf k<bs.length:=List.idxOf_lt_length_iff.mpr hk
 refine call_meets PySem.F.slot_list_index ⟨_,ho,rfl⟩ PySem.F.entry_list_index (PySem.F.args_list_index_2 _ _)
  (SeqAt.list_indexAt p (bs.map Value.bool).toArray n dd sl (.bool k) (isBoolOf k) (bs.idxOf k) (by simpa using hj) (Int.lt_of_lt_of_le (Int.ofNat_lt.mpr hj) (Int.le_trans (Int.ofNat_le.mpr hz) (by decide))) ?_ ?_) ⟨ho,fun y hy=>?_,⟨.int (bs.idxOf k:Nat),H,I.tok _,⟨_,rfl⟩,q⟩⟩
 ·show isBoolOf k ((bs.map Value.bool)[bs.idxOf k]'(by simpa using hj))=true
  rw [List.getElem_map]
  show (bs[bs.idxOf k]==k)=true
  simpa using List.getElem_idxOf hj
 ·intro j hjs hlt
  have h1:j<bs.length:=by simpa using hjs
  show isBoolOf k ((bs.map Value.bool)[j]'(by simpa using h1))=false
  rw [List.getElem_map]
  show (bs[j]==k)=false
  exact List.not_of_lt_findIdx hlt
 ·have hy':y∈bs.map Value.bool:=by simpa using hy
  obtain⟨b,_,rfl⟩:=List.mem_map.mp hy'
  exact SeqAt.EqAt.bool_bool b k
end
section
variable {X:Cx} (K:PySem.W.Frag) (hK:X.K=K)
include hK
theorem call_isiXK:CallR X (.builtin "isinstance") (fun xs H Q=>∃ (a C:Addr) (dx:Option Addr) (cv:V) (c:Value) (b:Bool),xs=[.ref a,cv]∧cval cv=some c∧H a=some (ExcO C a dx)∧ExcLook K C∧PySem.W.kitOne K (.ref C) c=some b∧Q (.bl b) H):=hK▸call_isiX
theorem call_isiXtK:CallR X (.builtin "isinstance") (fun xs H Q=>∃ (a C p:Addr) (dx:Option Addr) (ds:List Addr) (b:Bool),xs=[.ref a,.ref p]∧H p=some (.tup (ds.map V.ref))∧H a=some (ExcO C a dx)∧ExcLook K C∧PySem.W.kitAny K (.ref C) (ds.map Value.ref)=some b∧Q (.bl b) H):=hK▸call_isiXt
theorem ix_listK:IxR X (rIxL K):=hK▸ix_list
theorem mt_countBK:MtR X "list.count" (fun x xs H Q=>∃ (p:Addr) (bs:List Bool) (k:Bool),x=.ref p∧xs=[.bl k]∧SqL K H p (bs.map V.bl)∧Q (.int (bs.count k:Nat)) H):=hK▸mt_countB
theorem mt_indexBK:MtR X "list.index" (fun x xs H Q=>∃ (p:Addr) (bs:List Bool) (k:Bool),x=.ref p∧xs=[.bl k]∧SqL K H p (bs.map V.bl)∧k∈bs∧Q (.int (bs.idxOf k:Nat)) H):=hK▸mt_indexB
end
theorem pe_toK {X:Cx} {K:PySem.W.Frag} (hK:X.K=K) {e:Expr} {to:TE} {t:TA} {T:String} {r:V→List V→Hp→VK→Prop} (h:PE X e (tBM X.K T r to t)):PE X e (tBM K T r to t):=hK▸h
theorem pe_fldXK {X:Cx} {K:PySem.W.Frag} (hK:X.K=K) {o:Expr} {ta:TE} {f:Str} {pos:Pos} (he:PE X o ta) (hb:attributeBase o f X.env (eval o X.env)=eval o X.env):PE X (.Attribute o f pos) (tFldX K ta f):=hK▸pe_fldX he hb
section
variable {X:Cx}
inductive rAlikeT (K:PySem.W.Frag) (v:V) (x y:V) (H:Hp) (Q:VK):Prop where
 | mk:∀ a b xs ys ds,x=.ref a→y=.ref b→SqT K H a xs→SqT K H b ys→RdsA H xs ds→RdsA H ys ds→PyData.canLayAll0 ds=true→(∀ d∈ds,d.depth≤8)→Q v H→rAlikeT K v x y H Q
theorem op_neT (hu:X.A.units+64<cLine):OpR X (compareOp .NotEq) (fun x y H Q=>rAlikeT X.K (.bl false) x y H Q):=by
 intro pins s σ H x y v u Q I rx ry h
 obtain⟨a,b,xs,ys,ds,rfl,rfl,ha,hb,dx,dy,hc,hd,q⟩:=h
 cases rx
 cases ry
 obtain⟨its,r1,p1,_⟩:=I.tuple ha
 obtain⟨jts,r2,p2,_⟩:=I.tuple hb
 refine SeqAt.RcNeAt.tuples (e:=fun _=>true) p1 p2 (Nat.lt_of_le_of_lt (Nat.le_add_right _ 64) hu) (fun j h1 h2=>alike I.hok dx dy hc hd ?_ r1 r2 j h1 h2) X.prog X.w X.xe _ ⟨.bl false,H,I.tok _,?_,q⟩
 ·show X.A.units+1+8<cLine; omega
 ·show Value.bool _=Value.bool false
  congr 1
  simp [← r1.length,← r2.length,dx.len,dy.len]
theorem op_mulS:OpR X (binaryOp .Mult) (fun x y H Q=>∃ (z:Str) (n:Nat),x=.str z∧y=.int n∧z.length≤1∧n≤4∧∀ z',Q (.str z') H):=by
 intro pins s σ H x y v u Q I rx ry h
 obtain⟨z,n,rfl,rfl,hz,hn,q⟩:=h
 obtain⟨t,rfl⟩:=rx
 obtain⟨t',rfl⟩:=ry
 have hm:z.length*n≤4:=Nat.le_trans (Nat.mul_le_mul hz hn) (by decide)
 have tl:PySem.Builtin.Str.tooLong (z.length*(n:Int).toNat)=false:=by
  rw [Int.toNat_natCast]
  unfold PySem.Builtin.Str.tooLong
  exact decide_eq_false (Nat.not_lt.mpr (Nat.le_trans hm (by decide)))
 refine PySem.P.mul_str ?_ (fun h1 _=>?_) (fun _ _=>tl) ?_
 ·rw [decide_eq_false (by omega),decide_eq_false (by omega)]; rfl
 ·have : n=1∨n=2∨n=3∨n=4:=by omega
  rcases this with rfl | rfl | rfl | rfl <;> (simp; omega)
 ·split
  ·exact⟨by decide,.str _,H,I.tok _,⟨_,rfl⟩,q _⟩
  ·split
   ·exact⟨.str _,H,I,⟨_,rfl⟩,q _⟩
   ·exact⟨fits_reps tl,.str _,H,I.tok _,⟨_,rfl⟩,q _⟩
end
end L2
namespace Few
open PySem L2
theorem zld:LD "FewError":=by decide +kernel
theorem zle:LD "NoNaming":=by decide +kernel
theorem zlf:LD "NoPart":=by decide +kernel
theorem zlg:LD "NoRow":=by decide +kernel
theorem zlh:LD "NoSaying":=by decide +kernel
theorem zli:LD "NoSigns":=by decide +kernel
theorem zlj:LD "NoText":=by decide +kernel
theorem zlk:LD "NoWorld":=by decide +kernel
theorem zll:LD "ValueError":=by decide +kernel
theorem zlm:LM "ValueError":=by decide +kernel
theorem zln:LD "_law_beside":=by decide +kernel
theorem zlo:LS "_law_beside":=by decide +kernel
theorem zlp:LD "_law_call":=by decide +kernel
theorem zlq:LS "_law_call":=by decide +kernel
theorem zlr:LD "_law_told":=by decide +kernel
theorem zls:LS "_law_told":=by decide +kernel
theorem zlt:LD "e":=by decide +kernel
theorem zlu:LS "e":=by decide +kernel
theorem bt_ValueError:bootBuiltins "ValueError"=some (.type "ValueError"):=by decide +kernel
structure Xs (K:PySem.W.Frag) (C fe N nn M:Addr) (ds:List Addr) (a c:Bool):Prop where
 look:ExcLook K C
 ve:PySem.W.kitOne K (.ref C) (.type "ValueError")=some true
 oth:PySem.W.kitAny K (.ref C) (ds.map Value.ref)=some false
 kN:PySem.W.kitOne K (.ref C) (.ref N)=some a
 ko:PySem.W.kitOne K (.ref C) (.ref nn)=some false
 kM:PySem.W.kitOne K (.ref C) (.ref M)=some c
 up:PySem.W.mroIn K C (.ref fe)=some true
def ecR (N M:Addr) (wh:Option Nat) (H0:Hp):XK:=fun cls dx H2=>Same H0 H2∧((wh=none∧cls=.ref N)∨∃ m d,wh=some m∧cls=.ref M∧dx=some d∧H2 d=some (.xd [("many",.int (m:Nat))]))
def tellV:Option Nat→List V
 | none=>[.str "size",.int 0]
 | some m=>[.str "many",.int m]
section
variable {P:Program} {w:World} {K:PySem.W.Frag} {mg:Str→Option Value} {base:Heap}
abbrev s_law_refusal:Stmt:=top 49
theorem zlv:FnScope ["_law_call","_law_told","e","_law_beside","_law_kinds"] ["_law_call"] (defScope s_law_refusal):=⟨rfl,rfl,rfl,by decide +kernel,rfl,by decide +kernel,by decide +kernel⟩
theorem zlw:LN .globalImplicit s_law_refusal "FewError":=by decide +kernel
theorem zlx:LN .globalImplicit s_law_refusal "NoNaming":=by decide +kernel
theorem zly:LN .globalImplicit s_law_refusal "NoPart":=by decide +kernel
theorem zlz:LN .globalImplicit s_law_refusal "NoRow":=by decide +kernel
theorem zl0:LN .globalImplicit s_law_refusal "NoSaying":=by decide +kernel
theorem zl1:LN .globalImplicit s_law_refusal "NoSigns":=by decide +kernel
theorem zl2:LN .globalImplicit s_law_refusal "NoSize":=by decide +kernel
theorem zl3:LN .globalImplicit s_law_refusal "NoText":=by decide +kernel
theorem zl4:LN .globalImplicit s_law_refusal "NoWorld":=by decide +kernel
theorem zl5:LN .globalImplicit s_law_refusal "TooMany":=by decide +kernel
theorem zl6:LN .globalImplicit s_law_refusal "ValueError":=by decide +kernel
theorem zl7:LN .local s_law_refusal "_law_beside":=by decide +kernel
theorem zl8:LN .local s_law_refusal "_law_call":=by decide +kernel
theorem zl9:LN .local s_law_refusal "_law_kinds":=by decide +kernel
theorem zma:LN .local s_law_refusal "_law_told":=by decide +kernel
theorem zmb:LN .local s_law_refusal "e":=by decide +kernel
theorem zmc:LN .globalImplicit s_law_refusal "isinstance":=by decide +kernel
def spRef (N M:Addr) (fL:Addr) (spL:Hp→VK→XK→Prop):Sp:=fun vs H Q _=>∃ wh:Option Nat,vs=[.ref fL]∧(∀ H1 Q1,Same H H1→spL H1 Q1 (ecR N M wh H))∧∀ p H',Same H H'→H' p=some (.tup (tellV wh))→Q (.ref p) H'
theorem ok_refusal {fe N nn M x1 x2 x3 x4 x5 x6:Addr} (F:FunAt K mg "_law_refusal" s_law_refusal ["_law_call"]) (Z:Bl mg) (n_ValueError:mg "ValueError"=none) (O_FewError:mg "FewError"=some (.ref fe)∧IsCls K fe∧PySem.W.mroIn K fe (.type "BaseException")=some true)
  (TN:Xs K N fe N nn M [x1,x2,x3,x4,x5,x6] true false) (TM:Xs K M fe N nn M [x1,x2,x3,x4,x5,x6] false true) (TG:XGet K M "many")
  (g_NoSize:mg "NoSize"=some (.ref N)) (g_NoNaming:mg "NoNaming"=some (.ref nn)) (g_TooMany:mg "TooMany"=some (.ref M)) (g_NoPart:mg "NoPart"=some (.ref x1)) (g_NoRow:mg "NoRow"=some (.ref x2)) (g_NoSaying:mg "NoSaying"=some (.ref x3)) (g_NoSigns:mg "NoSigns"=some (.ref x4)) (g_NoText:mg "NoText"=some (.ref x5)) (g_NoWorld:mg "NoWorld"=some (.ref x6))
  (fL:Addr) (spL:Hp→VK→XK→Prop):DefZ P w K mg base "_law_refusal" 6 ["_law_call"] (fun outer s H=>LamOk P w K mg base 5 outer s H fL spL) (spRef N M fL spL):=by
 have SC:=zlv
 have r_NoSize:RelV (.ref N) (.ref N):=rfl
 have r_NoNaming:RelV (.ref nn) (.ref nn):=rfl
 have r_TooMany:RelV (.ref M) (.ref M):=rfl
 have r_NoPart:RelV (.ref x1) (.ref x1):=rfl
 have r_NoRow:RelV (.ref x2) (.ref x2):=rfl
 have r_NoSaying:RelV (.ref x3) (.ref x3):=rfl
 have r_NoSigns:RelV (.ref x4) (.ref x4):=rfl
 have r_NoText:RelV (.ref x5) (.ref x5):=rfl
 have r_NoWorld:RelV (.ref x6) (.ref x6):=rfl
 refine F.mkZ (k:=5) zlv (fun vs H Q E h=>?_) (fun f cdv A outer s H vs Q E hr hz h=>?_)
 ·obtain⟨wh,rfl,_⟩:=h
  rfl
 ·obtain⟨wh,rfl,hL,q⟩:=h
  refine'⟨_,?derivation,?_⟩
  case derivation=>refine' pss_cons ?Aa ?Ba;(case Aa=>refine' ps_set (i:=1) (x:=Str.ofString "_law_told") ?Ca ?Da ?Ea ?Fa ?Ga ?Ha;(case Ca=>exact SC.nd);(case Da=>exact rfl);(case Ea=>exact(Or.inl zma));(case Fa=>refine' pe_tup ?Ia;case Ia=>refine' pa_cons ?Ja ?Ka ?La;(case Ja=>exact pe_str);(case Ka=>refine' pa_cons ?Ma pa_nil ?Na;(case Ma=>exact pe_int);case Na=>rfl);case La=>rfl);(case Ga=>rfl);case Ha=>exact .inl rfl);case Ba=>refine' pss_cons ?Oa ?Pa;(case Oa=>refine' ps_tryAs (Ec:=(ecR N M wh H)) (i:=2) (n:=Str.ofString "e") (hdb:=zld) O_FewError.1 O_FewError.2.1 O_FewError.2.2 zlw SC.nd rfl zmb ?Qa ?Ra;(case Qa=>intro _;refine' pss_one ?Sa;case Sa=>refine' ps_expr ?Ta rfl;case Ta=>refine' pe_lam (i:=0) (x:=Str.ofString "_law_call") rfl (framed_pnd framed_of) hz (hr.mono (by decide)) rfl (visL zl8) zlp zlq);case Ra=>intro _ _;refine' pss_cons ?Ua ?Va;(case Ua=>refine' ps_set (i:=3) (x:=Str.ofString "_law_beside") ?Wa ?Xa ?Ya ?Za ?Ab ?Bb;(case Wa=>exact SC.nd);(case Xa=>exact rfl);(case Ya=>exact(Or.inl zl7));(case Za=>refine' pe_callB (hn:=zd8) (hdb:=zd7) (call_isiXtK K rfl) zmc Z.n_isinstance bt_isinstance ?Cb rfl rfl;case Cb=>refine' pa_cons (pq 2 (visL zmb) zlt zlu) ?Db ?Eb;(case Db=>refine' pa_cons ?Fb pa_nil ?Gb;(case Fb=>refine' pe_tup ?Hb;case Hb=>refine' pa_cons ?Ib ?Jb ?Kb;(case Ib=>refine' pe_glob (hd:=zlf) zly g_NoPart r_NoPart);(case Jb=>refine' pa_cons ?Lb ?Mb ?Nb;(case Lb=>refine' pe_glob (hd:=zlg) zlz g_NoRow r_NoRow);(case Mb=>refine' pa_cons ?Ob ?Pb ?Qb;(case Ob=>refine' pe_glob (hd:=zlh) zl0 g_NoSaying r_NoSaying);(case Pb=>refine' pa_cons ?Rb ?Sb ?Tb;(case Rb=>refine' pe_glob (hd:=zli) zl1 g_NoSigns r_NoSigns);(case Sb=>refine' pa_cons ?Ub ?Vb ?Wb;(case Ub=>refine' pe_glob (hd:=zlj) zl3 g_NoText r_NoText);(case Vb=>refine' pa_cons ?Xb pa_nil ?Yb;(case Xb=>refine' pe_glob (hd:=zlk) zl4 g_NoWorld r_NoWorld);case Yb=>rfl);case Wb=>rfl);case Tb=>rfl);case Qb=>rfl);case Nb=>rfl);case Kb=>rfl);case Gb=>rfl);case Eb=>rfl);(case Ab=>rfl);case Bb=>exact .inl rfl);case Va=>refine' pss_cons ?Zb ?Ac;(case Zb=>refine' ps_set (i:=4) (x:=Str.ofString "_law_kinds") ?Bc ?Cc ?Dc ?Ec ?Fc ?Gc;(case Bc=>exact SC.nd);(case Cc=>exact rfl);(case Dc=>exact(Or.inl zl9));(case Ec=>refine' pe_lst ?Hc;case Hc=>refine' pa_cons ?Ic ?Jc ?Kc;(case Ic=>refine' pe_callB (hn:=zd8) (hdb:=zd7) (call_isiXK K rfl) zmc Z.n_isinstance bt_isinstance ?Lc rfl rfl;case Lc=>refine' pa_cons (pq 2 (visL zmb) zlt zlu) ?Mc ?Nc;(case Mc=>refine' pa_cons ?Oc pa_nil ?Pc;(case Oc=>refine' pe_glob (hd:=zho) zl2 g_NoSize r_NoSize);case Pc=>rfl);case Nc=>rfl);(case Jc=>refine' pa_cons ?Qc ?Rc ?Sc;(case Qc=>refine' pe_callB (hn:=zd8) (hdb:=zd7) (call_isiXK K rfl) zmc Z.n_isinstance bt_isinstance ?Tc rfl rfl;case Tc=>refine' pa_cons (pq 2 (visL zmb) zlt zlu) ?Uc ?Vc;(case Uc=>refine' pa_cons ?Wc pa_nil ?Xc;(case Wc=>refine' pe_glob (hd:=zle) zlx g_NoNaming r_NoNaming);case Xc=>rfl);case Vc=>rfl);(case Rc=>refine' pa_cons ?Yc pa_nil ?Zc;(case Yc=>refine' pe_callB (hn:=zd8) (hdb:=zd7) (call_isiXK K rfl) zmc Z.n_isinstance bt_isinstance ?Ad rfl rfl;case Ad=>refine' pa_cons (pq 2 (visL zmb) zlt zlu) ?Bd ?Cd;(case Bd=>refine' pa_cons ?Dd pa_nil ?Ed;(case Dd=>refine' pe_glob (hd:=zi3) zl5 g_TooMany r_TooMany);case Ed=>rfl);case Cd=>rfl);case Zc=>rfl);case Sc=>rfl);case Kc=>rfl);(case Fc=>rfl);case Gc=>exact .inl rfl);case Ac=>refine' pss_cons ?Fd ?Gd;(case Fd=>refine' ps_set (i:=1) (x:=Str.ofString "_law_told") ?Hd ?Id ?Jd ?Kd ?Ld ?Md;(case Hd=>exact SC.nd);(case Id=>exact rfl);(case Jd=>exact(Or.inl zma));(case Kd=>refine' pe_tup ?Nd;case Nd=>refine' pa_cons ?Od ?Pd ?Qd;(case Od=>exact pe_str);(case Pd=>refine' pa_cons ?Rd pa_nil ?Sd;(case Rd=>exact pe_int);case Sd=>rfl);case Qd=>rfl);(case Ld=>rfl);case Md=>exact .inl rfl);case Gd=>refine' pss_one ?Td;case Td=>refine' ps_if ?Ud ?Vd pss_nil;(case Ud=>refine' PW.pt ?Wd;case Wd=>refine' pw_and ?Xd ?Yd;(case Xd=>refine' pt_val ?Zd ?Ae;(case Zd=>refine' pe_callB (hn:=zd8) (hdb:=zd7) (call_isiXK K rfl) zmc Z.n_isinstance bt_isinstance ?Be rfl rfl;case Be=>refine' pa_cons (pq 2 (visL zmb) zlt zlu) ?Ce ?De;(case Ce=>refine' pa_cons ?Ee pa_nil ?Fe;(case Ee=>refine' pe_bltn (v:=V.ty "ValueError") (hn:=zlm) (hd:=zll) zl6 n_ValueError bt_ValueError rfl);case Fe=>rfl);case De=>rfl);case Ae=>intro _; rfl);case Yd=>refine' pw_and ?Ge ?He;(case Ge=>refine' pt_not ?Ie;case Ie=>refine' pt_val (pq 3 (visL zl7) zln zlo) ?Je;case Je=>intro _; rfl);case He=>refine' pw_and1 ?Ke;case Ke=>refine' pt_cmpR op_eq ?Le ?Me (nomark _);(case Le=>refine' pe_toK (K:=K) rfl ?Ne;case Ne=>refine' pe_bm PySem.F.plainAttrs_list PySem.F.slot_list_count PySem.F.type_list_count (mt_countBK K rfl) (pq 4 (visL zl9) zcs zct) ?Oe rfl rfl rfl rfl rfl;case Oe=>refine' pa_cons ?Pe pa_nil ?Qe;(case Pe=>exact pe_bl);case Qe=>rfl);case Me=>exact pe_int);case Vd=>refine' pss_one ?Re;case Re=>refine' ps_set (i:=1) (x:=Str.ofString "_law_told") ?Se ?Te ?Ue ?Ve ?We ?Xe;(case Se=>exact SC.nd);(case Te=>exact rfl);(case Ue=>exact(Or.inl zma));(case Ve=>refine' pe_tup ?Ye;case Ye=>refine' pa_cons ?Ze ?Af ?Bf;(case Ze=>refine' pe_ix (ix_listK K rfl) ?Cf ?Df ?Ef;(case Cf=>refine' pe_lst ?Ff;case Ff=>refine' pa_strs (by repeat constructor));(case Df=>refine' pe_toK (K:=K) rfl ?Gf;case Gf=>refine' pe_bm PySem.F.plainAttrs_list PySem.F.slot_list_index PySem.F.type_list_index (mt_indexBK K rfl) (pq 4 (visL zl9) zcs zct) ?Hf rfl rfl rfl rfl rfl;case Hf=>refine' pa_cons ?If pa_nil ?Jf;(case If=>exact pe_bl);case Jf=>rfl);case Ef=>intro _ _;exact rfl);(case Af=>refine' pa_cons ?Kf pa_nil ?Lf;(case Kf=>refine' pe_ifExp ?Mf ?Nf ?Of;(case Mf=>refine' pt_val ?Pf ?Qf;(case Pf=>refine' pe_ix (ix_listK K rfl) (pq 4 (visL zl9) zcs zct) ?Rf ?Sf;(case Rf=>exact pe_int);case Sf=>intro _ _;exact rfl);case Qf=>intro _; rfl);(case Nf=>refine' pe_fldXK (K:=K) rfl (pq 2 (visL zmb) zlt zlu) rfl);case Of=>exact pe_int);case Lf=>rfl);case Bf=>rfl);(case We=>rfl);case Xe=>exact .inl rfl);case Pa=>refine' pss_one ?Tf;case Tf=>refine' ps_ret (pq 1 (visL zma) zlr zls)
  refine⟨by show 2≤sizeLine; decide,fun t ht=>⟨⟨rfl,hL _ _ (same_new ht _)⟩,?_⟩⟩
  rintro cls dx H1 σ1 ⟨s1,hc⟩ hl
  obtain⟨o0,o1,o2,o3,o4,rfl⟩:∃ o0 o1 o2 o3 o4,σ1=[o0,o1,o2,o3,o4]:=by
   match σ1,hl with
   | [o0,o1,o2,o3,o4],_=>exact⟨_,_,_,_,_,rfl⟩
  obtain⟨C,b1,b3,rfl,T,hb⟩:∃ C b1 b3,cls=.ref C∧Xs K C fe N nn M [x1,x2,x3,x4,x5,x6] b1 b3∧((b1=true∧b3=false∧wh=none)∨(b1=false∧b3=true∧∃ m d,wh=some m∧C=M∧dx=some d∧H1 d=some (.xd [("many",.int (m:Nat))]))):=by
   rcases hc with ⟨e1,e2⟩ | ⟨m,d,e1,e2,e3,e4⟩
   ·exact⟨N,true,false,e2,TN,.inl ⟨rfl,rfl,e1⟩⟩
   ·exact⟨M,false,true,e2,TM,.inr ⟨rfl,rfl,m,d,e1,rfl,e3,e4⟩⟩
  refine⟨C,rfl,T.up,fun a ha=>?_⟩
  have sa:=same_new ha (ExcO C a dx)
  have ea:(upd H1 a (ExcO C a dx)) a=some (ExcO C a dx):=upd_same
  have sG:Same H (upd H1 a (ExcO C a dx)):=s1.trans sa
  generalize (upd H1 a (ExcO C a dx))=G at sa ea sG
  refine⟨_,rfl,by show 6≤sizeLine; decide,fun t2 ht2=>?_⟩
  have st2:=same_new ht2 (.tup [.ref x1,.ref x2,.ref x3,.ref x4,.ref x5,.ref x6])
  refine⟨a,C,t2,dx,[x1,x2,x3,x4,x5,x6],false,rfl,upd_same,st2 _ _ ea,T.look,T.oth,?_⟩
  refine⟨_,rfl,a,C,dx,_,_,b1,rfl,rfl,st2 _ _ ea,T.look,T.kN,_,rfl,a,C,dx,_,_,false,rfl,rfl,st2 _ _ ea,T.look,T.ko,_,rfl,a,C,dx,_,_,b3,rfl,rfl,st2 _ _ ea,T.look,T.kM,by show 3≤sizeLine; decide,fun l hl=>?_⟩
  have sl:=same_new hl (.lst [.bl b1,.bl false,.bl b3])
  refine⟨by show 2≤sizeLine; decide,fun t3 ht3=>?_⟩
  have s3:=same_new ht3 (.tup [.str "other",.int 0])
  have eA:=s3 _ _ (sl _ _ (st2 _ _ ea))
  have eL:=s3 _ _ (show (upd _ l (.lst [.bl b1,.bl false,.bl b3])) l=some _ from upd_same)
  have sF:Same G _:=(st2.trans sl).trans s3
  refine⟨_,rfl,a,C,dx,_,_,true,rfl,rfl,eA,T.look,T.ve,true,rfl,ifT rfl ⟨_,rfl,false,rfl,ifT rfl ⟨_,rfl,.inl ⟨rfl,_,SqL.of eL⟩,l,[b1,false,b3],true,rfl,rfl,SqL.of eL,?_⟩⟩⟩
  have hG:=sG.trans sF
  clear s3
  generalize (upd _ t3 _)=G3 at eA eL sF hG
  rcases hb with ⟨rfl,rfl,rfl⟩ | ⟨rfl,rfl,m,d,rfl,rfl,rfl,ed⟩
  ·refine⟨rfl,_,rfl,ifT (decide_eq_true rfl) ⟨by show 3≤sizeLine; decide,fun l2 hl2=>?_⟩⟩
   have s4:=same_new hl2 (.lst [.str "size",.str "naming",.str "many"])
   refine⟨_,rfl,.inl ⟨rfl,_,SqL.of (s4 _ _ eL)⟩,l,[true,false,false],true,rfl,rfl,SqL.of (s4 _ _ eL),by decide,l2,_,0,.str "size",rfl,rfl,SqL.of upd_same,rfl,_,rfl,l,_,2,_,rfl,rfl,SqL.of (s4 _ _ eL),rfl,false,rfl,ifF (by decide) ⟨by show 2≤sizeLine; decide,fun p hp=>⟨_,rfl,q p _ ((hG.trans s4).trans (same_new hp _)) upd_same⟩⟩⟩
  ·refine⟨rfl,_,rfl,ifT (decide_eq_true rfl) ⟨by show 3≤sizeLine; decide,fun l2 hl2=>?_⟩⟩
   have s4:=same_new hl2 (.lst [.str "size",.str "naming",.str "many"])
   refine⟨_,rfl,.inl ⟨rfl,_,SqL.of (s4 _ _ eL)⟩,l,[false,false,true],true,rfl,rfl,SqL.of (s4 _ _ eL),by decide,l2,_,2,.str "many",rfl,rfl,SqL.of upd_same,rfl,_,rfl,l,_,2,_,rfl,rfl,SqL.of (s4 _ _ eL),rfl,true,rfl,ifT rfl ⟨_,rfl,a,_,d,_,m,rfl,s4 _ _ eA,s4 _ _ (sF _ _ (sa _ _ ed)),TG,rfl,by show 2≤sizeLine; decide,fun p hp=>⟨_,rfl,q p _ ((hG.trans s4).trans (same_new hp _)) upd_same⟩⟩⟩
end
theorem zmd:LD "_law_at":=by decide +kernel
theorem zme:LS "_law_at":=by decide +kernel
theorem zmf:LD "_law_odd":=by decide +kernel
theorem zmg:LS "_law_odd":=by decide +kernel
theorem zmh:LD "_law_spoilt":=by decide +kernel
theorem zmi:LS "_law_spoilt":=by decide +kernel
theorem odd_at {H:Hp} {l:Addr} {r:Int} (h0:0≤r) (h8:r<8) (e:H l=some (.lst [.int 2])):∃ v,atI [V.int 0,V.int 5,V.int (-1),V.bl true,V.non,V.str "2",V.ref l,V.int (10 ^ 20)] r=some v∧¬ okN v∧((∀ G,Sh G v)∨v=.ref l):=by
 have : r=0∨r=1∨r=2∨r=3∨r=4∨r=5∨r=6∨r=7:=by omega
 rcases this with rfl | rfl | rfl | rfl | rfl | rfl | rfl | rfl
 ·exact⟨_,rfl,fun z=>by obtain⟨z1,z2⟩:=(show (1:Int)≤0∧(0:Int)≤4 from z); omega,.inl fun G=>.int _⟩
 ·exact⟨_,rfl,fun z=>by obtain⟨z1,z2⟩:=(show (1:Int)≤5∧(5:Int)≤4 from z); omega,.inl fun G=>.int _⟩
 ·exact⟨_,rfl,fun z=>by obtain⟨z1,z2⟩:=(show (1:Int)≤-1∧(-1:Int)≤4 from z); omega,.inl fun G=>.int _⟩
 ·exact⟨_,rfl,fun z=>z,.inl fun G=>.bl _⟩
 ·exact⟨_,rfl,fun z=>z,.inl fun G=>.non⟩
 ·exact⟨_,rfl,fun z=>z,.inl fun G=>.str _⟩
 ·exact⟨_,rfl,fun z=>z,.inr rfl⟩
 ·exact⟨_,rfl,fun z=>by obtain⟨z1,z2⟩:=(show (1:Int)≤10 ^ 20∧(10 ^ 20:Int)≤4 from z); omega,.inl fun G=>.int _⟩
structure NoSz (H:Hp) (ks:List Str) (v:V):Prop where
 sh:Sh H v
 ins:∀ xs,rowOf H v=some xs→∀ y∈xs,Sh H y
 bad:¬ Good H ks v
theorem nosz_row {H:Hp} {ks:List Str} {a:Addr} {xs:List V} (e:LT H a xs) (hi:∀ y∈xs,Sh H y) (hb:∀ ns:List Nat,xs=ns.map iV→¬ SizeOk ks ns):NoSz H ks (.ref a):=by
 have r:=row_of e
 refine⟨.row e,fun zs h=>?_,fun ⟨ns,h,o⟩=>?_⟩
 ·rw [r] at h; cases h; exact hi
 ·rw [r] at h; exact hb ns (Option.some.inj h) o
theorem nosz_none {H:Hp} {ks:List Str} {v:V} (s:Sh H v) (r:rowOf H v=none):NoSz H ks v:=
 ⟨s,fun zs h=>(by rw [r] at h; cases h),fun ⟨ns,h,_⟩=>(by rw [r] at h; cases h)⟩
theorem new_at {H:Hp} {a:Addr} (h:H a=none) (o:HO):Same H (upd H a o)∧upd H a o a=some o:=⟨same_new h o,upd_same⟩
theorem sh_nums {H:Hp} {ns:List Nat}:∀ y∈ns.map iV,Sh H y:=fun y hy=>by
 obtain⟨n,_,rfl⟩:=List.mem_map.mp hy
 exact .int _
theorem mem_cut {xs:List V} {lo hi:Option Int} {y:V} (h:y∈cutV xs lo hi):y∈xs:=List.mem_of_mem_drop (List.mem_of_mem_take h)
theorem cut_last (xs:List V):(cutV xs none (some (-1))).length=xs.length-1:=by
 unfold cutV
 rw [List.length_take,List.length_drop]
 show min ((-1+(xs.length:Int)).toNat-0) (xs.length-0)=_
 omega
theorem at_eight {v0 v1 v2 v3 v4 v5 v6 v7:V} {r:Int} (h0:0≤r) (h8:r<8) {F:V→Prop} (f0:F v0) (f1:F v1) (f2:F v2) (f3:F v3) (f4:F v4) (f5:F v5) (f6:F v6) (f7:F v7):∃ v,atI [v0,v1,v2,v3,v4,v5,v6,v7] r=some v∧F v:=by
 have : r=0∨r=1∨r=2∨r=3∨r=4∨r=5∨r=6∨r=7:=by omega
 rcases this with rfl | rfl | rfl | rfl | rfl | rfl | rfl | rfl
 ·exact⟨_,rfl,f0⟩
 ·exact⟨_,rfl,f1⟩
 ·exact⟨_,rfl,f2⟩
 ·exact⟨_,rfl,f3⟩
 ·exact⟨_,rfl,f4⟩
 ·exact⟨_,rfl,f5⟩
 ·exact⟨_,rfl,f6⟩
 ·exact⟨_,rfl,f7⟩
section
variable {P:Program} {w:World} {K:PySem.W.Frag} {mg:Str→Option Value} {base:Heap}
abbrev s_law_no_size:Stmt:=top 50
theorem zmj:FnScope ["_law_pot_here","_law_size","_law_at","_law_odd","_law_spoilt"] ["_law_pot_here","_law_size"] (defScope s_law_no_size):=⟨rfl,rfl,rfl,by decide +kernel,rfl,by decide +kernel,by decide +kernel⟩
theorem zmk:LN .local s_law_no_size "_law_at":=by decide +kernel
theorem zml:LN .globalImplicit s_law_no_size "_law_draw":=by decide +kernel
theorem zmm:LN .local s_law_no_size "_law_odd":=by decide +kernel
theorem zmn:LN .local s_law_no_size "_law_pot_here":=by decide +kernel
theorem zmo:LN .local s_law_no_size "_law_size":=by decide +kernel
theorem zmp:LN .local s_law_no_size "_law_spoilt":=by decide +kernel
theorem zmq:LN .globalImplicit s_law_no_size "len":=by decide +kernel
theorem zmr:LN .globalImplicit s_law_no_size "tuple":=by decide +kernel
def spNoSz:Sp:=fun vs H Q _=>∃ (p a:Addr) (ks:List Str) (ns:List Nat),vs=[.ref p,.ref a]∧PotAt H p∧a≠p∧H a=some (.lst (ns.map iV))∧SizeOk ks ns∧1≤ns.length∧ns.length≤4∧∀ v H',PotAt H' p→SameX p H H'→NoSz H' ks v→Q v H'
theorem ok_nosz (F:FunAt K mg "_law_no_size" s_law_no_size ["_law_pot_here","_law_size"]) (Z:Bl mg) (D_law_draw:Def P w K mg base "_law_draw" 1 ["_law_pot_here","_law_many"] spDraw):Def P w K mg base "_law_no_size" 2 ["_law_pot_here","_law_size"] spNoSz:=by
 have SC:=zmj
 refine F.mk' (k:=1) zmj (fun vs H Q E h=>?_) (fun f cdv A outer s H vs Q E hr h=>?_)
 ·obtain⟨p,a,ks,ns,rfl,_⟩:=h
  rfl
 ·obtain⟨p,a,ks,ns,rfl,hp,nap,ha,ok,n1,n4,q⟩:=h
  refine'⟨_,?derivation,?_⟩
  case derivation=>refine' pss_cons ?Aa ?Ba;(case Aa=>refine' ps_set (i:=2) (x:=Str.ofString "_law_at") ?Ca ?Da ?Ea ?Fa ?Ga ?Ha;(case Ca=>exact SC.nd);(case Da=>exact rfl);(case Ea=>exact(Or.inl zmk));(case Fa=>refine' pe_def (hdb:=zbe) D_law_draw (hr.mono (by decide)) zml ?Ia rfl rfl;case Ia=>refine' pa_cons (pq 0 (visL zmn) zbn zbo) ?Ja ?Ka;(case Ja=>refine' pa_cons ?La pa_nil ?Ma;(case La=>refine' pe_callB (hn:=zbw) (hdb:=zbv) call_len_seq zmq Z.n_len bt_len ?Na rfl rfl;case Na=>refine' pa_cons (pq 1 (visL zmo) zkf zkg) pa_nil ?Oa;case Oa=>rfl);case Ma=>rfl);case Ka=>rfl);(case Ga=>rfl);case Ha=>exact .inl rfl);case Ba=>refine' pss_cons ?Pa ?Qa;(case Pa=>refine' ps_set (i:=3) (x:=Str.ofString "_law_odd") ?Ra ?Sa ?Ta ?Ua ?Va ?Wa;(case Ra=>exact SC.nd);(case Sa=>exact rfl);(case Ta=>exact(Or.inl zmm));(case Ua=>refine' pe_ix ix_list ?Xa ?Ya ?Za;(case Xa=>refine' pe_lst ?Ab;case Ab=>refine' pa_cons ?Bb ?Cb ?Db;(case Bb=>exact pe_int);(case Cb=>refine' pa_cons ?Eb ?Fb ?Gb;(case Eb=>exact pe_int);(case Fb=>refine' pa_cons ?Hb ?Ib ?Jb;(case Hb=>refine' pe_un un_neg ?Kb;case Kb=>exact pe_int);(case Ib=>refine' pa_cons ?Lb ?Mb ?Nb;(case Lb=>exact pe_bl);(case Mb=>refine' pa_cons ?Ob ?Pb ?Qb;(case Ob=>exact pe_non);(case Pb=>refine' pa_cons ?Rb ?Sb ?Tb;(case Rb=>exact pe_str);(case Sb=>refine' pa_cons ?Ub ?Vb ?Wb;(case Ub=>refine' pe_lst ?Xb;case Xb=>refine' pa_cons ?Yb pa_nil ?Zb;(case Yb=>exact pe_int);case Zb=>rfl);(case Vb=>refine' pa_cons ?Ac pa_nil ?Bc;(case Ac=>refine' pe_op op_pow ?Cc ?Dc;(case Cc=>exact pe_int);case Dc=>exact pe_int);case Bc=>rfl);case Wb=>rfl);case Tb=>rfl);case Qb=>rfl);case Nb=>rfl);case Jb=>rfl);case Gb=>rfl);case Db=>rfl);(case Ya=>refine' pe_def (hdb:=zbe) D_law_draw (hr.mono (by decide)) zml ?Ec rfl rfl;case Ec=>refine' pa_cons (pq 0 (visL zmn) zbn zbo) ?Fc ?Gc;(case Fc=>refine' pa_cons ?Hc pa_nil ?Ic;(case Hc=>exact pe_int);case Ic=>rfl);case Gc=>rfl);case Za=>intro _ _;exact rfl);(case Va=>rfl);case Wa=>exact .inl rfl);case Qa=>refine' pss_cons ?Jc ?Kc;(case Jc=>refine' ps_set (i:=4) (x:=Str.ofString "_law_spoilt") ?Lc ?Mc ?Nc ?Oc ?Pc ?Qc;(case Lc=>exact SC.nd);(case Mc=>exact rfl);(case Nc=>exact(Or.inl zmp));(case Oc=>refine' pe_op op_cat ?Rc ?Sc;(case Rc=>refine' pe_op op_cat ?Tc ?Uc;(case Tc=>refine' pe_slice sl_list (pq 1 (visL zmo) zkf zkg) po_none ?Vc;case Vc=>refine' po_some (pq 2 (visL zmk) zmd zme));case Uc=>refine' pe_lst ?Wc;case Wc=>refine' pa_cons (pq 3 (visL zmm) zmf zmg) pa_nil ?Xc;case Xc=>rfl);case Sc=>refine' pe_slice sl_list (pq 1 (visL zmo) zkf zkg) ?Yc po_none;case Yc=>refine' po_some ?Zc;case Zc=>refine' pe_op op_add (pq 2 (visL zmk) zmd zme) ?Ad;case Ad=>exact pe_int);(case Pc=>rfl);case Qc=>exact .inl rfl);case Kc=>refine' pss_one ?Bd;case Bd=>refine' ps_ret ?Cd;case Cd=>refine' pe_ix ix_list ?Dd ?Ed ?Fd;(case Dd=>refine' pe_lst ?Gd;case Gd=>refine' pa_cons (pq 4 (visL zmp) zmh zmi) ?Hd ?Id;(case Hd=>refine' pa_cons ?Jd ?Kd ?Ld;(case Jd=>refine' pe_callTy (hn:=zeu) (hdb:=zet) ?Md zmr Z.n_tuple bt_tuple ?Nd rfl rfl;(case Md=>exact call_tuple_of);case Nd=>refine' pa_cons (pq 4 (visL zmp) zmh zmi) pa_nil ?Od;case Od=>rfl);(case Kd=>refine' pa_cons ?Pd ?Qd ?Rd;(case Pd=>refine' pe_op op_cat (pq 1 (visL zmo) zkf zkg) ?Sd;case Sd=>refine' pe_lst ?Td;case Td=>refine' pa_cons ?Ud pa_nil ?Vd;(case Ud=>exact pe_int);case Vd=>rfl);(case Qd=>refine' pa_cons ?Wd ?Xd ?Yd;(case Wd=>refine' pe_slice sl_list (pq 1 (visL zmo) zkf zkg) po_none ?Zd;case Zd=>refine' po_some ?Ae;case Ae=>refine' pe_un un_neg ?Be;case Be=>exact pe_int);(case Xd=>refine' pa_cons ?Ce ?De ?Ee;(case Ce=>refine' pe_lst pa_nil);(case De=>refine' pa_cons ?Fe ?Ge ?He;(case Fe=>refine' pe_op op_mulS ?Ie ?Je;(case Ie=>exact pe_str);case Je=>refine' pe_callB (hn:=zbw) (hdb:=zbv) call_len_seq zmq Z.n_len bt_len ?Ke rfl rfl;case Ke=>refine' pa_cons (pq 1 (visL zmo) zkf zkg) pa_nil ?Le;case Le=>rfl);(case Ge=>refine' pa_cons ?Me ?Ne ?Oe;(case Me=>exact pe_non);(case Ne=>refine' pa_cons ?Pe pa_nil ?Qe;(case Pe=>exact pe_dnewK);case Qe=>rfl);case Oe=>rfl);case He=>rfl);case Ee=>rfl);case Yd=>rfl);case Rd=>rfl);case Ld=>rfl);case Id=>rfl);(case Ed=>refine' pe_def (hdb:=zbe) D_law_draw (hr.mono (by decide)) zml ?Re rfl rfl;case Re=>refine' pa_cons (pq 0 (visL zmn) zbn zbo) ?Se ?Te;(case Se=>refine' pa_cons ?Ue pa_nil ?Ve;(case Ue=>exact pe_int);case Ve=>rfl);case Te=>rfl);case Fd=>intro _ _;exact rfl
  refine⟨_,rfl,_,rfl,a,_,rfl,.inl (SqL.of ha),p,_,rfl,hp,by rw [List.length_map]; omega,by rw [List.length_map]; omega,fun k H1 k0 k1 hp1 s1=>?_⟩
  rw [List.length_map] at k1
  have ha1:=s1 a _ nap ha
  have f1:∀ b,H1 b=none→b≠p:=fun b e z=>by obtain⟨o,e2⟩:=hp1.some; rw [← z,e] at e2; cases e2
  refine⟨1,rfl,by show 1≤sizeLine; decide,fun l hl=>⟨10,20,rfl,rfl,?_,by show 8≤sizeLine; decide,fun L hL=>?_⟩⟩
  ·exact⟨by decide,by decide,by decide⟩
  have nlp:=f1 l hl
  have sl:=same_new hl (.lst [.int 2])
  have nLp:L≠p:=f1 L (sl.free hL)
  have sL:=sl.trans (same_new hL (.lst [V.int 0,V.int 5,V.int (-1),V.bl true,V.non,V.str "2",V.ref l,V.int (10 ^ 20)]))
  refine⟨_,rfl,p,8,rfl,hp1.keep sL,by decide,by decide,fun r H2 r0 r8 hp2 s2=>?_⟩
  have el2:H2 l=some (.lst [.int 2]):=s2 l _ nlp (same_new hL _ _ _ upd_same)
  have eL2:H2 L=some (.lst [V.int 0,V.int 5,V.int (-1),V.bl true,V.non,V.str "2",V.ref l,V.int (10 ^ 20)]):=s2 L _ nLp upd_same
  have ha2:H2 a=_:=s2 a _ nap (sL _ _ ha1)
  have s02:SameX p H H2:=fun b o n e=>s2 b o n (sL _ _ (s1 b o n e))
  obtain⟨v,hv,bad,hsh⟩:=odd_at r0 r8 el2
  refine⟨L,_,r,v,rfl,rfl,SqL.of eL2,hv,?_⟩
  have shv:∀ G,Same H2 G→Sh G v:=fun G s=>by
   rcases hsh with z | rfl
   ·exact z G
   ·exact .row (.inl (s _ _ el2))
  have fp:∀ {G:Hp} {b:Addr},Same H2 G→G b=none→b≠p:=fun s e z=>by obtain⟨o,e2⟩:=(hp2.keep s).some; rw [← z,e] at e2; cases e2
  clear hv eL2 s2 sL nLp hL sl
  have xl:∀ lo hi,(cutV (ns.map iV) lo hi).length≤4:=fun lo hi=>Nat.le_trans (cutV_length _ lo hi) (by rw [List.length_map]; exact n4)
  refine⟨_,rfl,_,rfl,k,rfl,a,_,rfl,SqL.of ha2,fun c1 hc1=>?_⟩
  have t1:=same_new hc1 (.lst (cutV (ns.map iV) none (some k)))
  refine⟨_,rfl,by show 1≤sizeLine; decide,fun l3 hl3=>?_⟩
  have t2:=same_new hl3 (.lst [v])
  refine⟨c1,l3,_,_,rfl,rfl,t2 _ _ upd_same,upd_same,Nat.le_trans (show _≤100 from ?_) (by decide),fun c2 hc2=>?_⟩
  ·have:=xl none (some k)
   show _+1≤100
   omega
  have t3:=same_new hc2 (.lst (cutV (ns.map iV) none (some k)++[v]))
  have t13:=(t1.trans t2).trans t3
  refine⟨_,rfl,_,rfl,_,_,rfl,rfl,_,rfl,a,_,rfl,SqL.of (t13 _ _ ha2),fun c3 hc3=>?_⟩
  have t4:=same_new hc3 (.lst (cutV (ns.map iV) (some (k+1)) none))
  refine⟨c2,c3,_,_,rfl,rfl,t4 _ _ upd_same,upd_same,Nat.le_trans (show _≤100 from ?_) (by decide),fun S hS=>?_⟩
  ·have:=xl none (some k)
   have:=xl (some (k+1)) none
   rw [List.length_append]
   show _+1+_≤100
   omega
  have vin:v∈cutV (ns.map iV) none (some k)++[v]++cutV (ns.map iV) (some (k+1)) none:=List.mem_append_left _ (List.mem_append_right _ List.mem_cons_self)
  have yin:∀ y∈cutV (ns.map iV) none (some k)++[v]++cutV (ns.map iV) (some (k+1)) none,y∈ns.map iV∨y=v:=fun y hy=>by
   rcases List.mem_append.mp hy with hy | hy
   ·rcases List.mem_append.mp hy with hy | hy
    ·exact .inl (mem_cut hy)
    ·exact .inr (List.mem_singleton.mp hy)
   ·exact .inl (mem_cut hy)
  obtain⟨t5,eS⟩:=new_at hS (.lst (cutV (ns.map iV) none (some k)++[v]++cutV (ns.map iV) (some (k+1)) none))
  have sS:=(t13.trans t4).trans t5
  have fS:S≠p:=fp (t13.trans t4) hS
  generalize cutV (ns.map iV) none (some k)++[v]++cutV (ns.map iV) (some (k+1)) none=xs at *
  clear t5 t4 t13 t3 t2 t1
  generalize (upd _ S (.lst xs))=G at sS eS
  refine⟨_,rfl,_,rfl,S,_,rfl,.inl ⟨SqL.of eS,fun T hT=>?_⟩⟩
  obtain⟨t1,eT⟩:=new_at hT (.tup xs)
  have fT:=fp sS hT
  have u1:=sS.trans t1
  refine⟨_,rfl,by show 1≤sizeLine; decide,fun l4 hl4=>?_⟩
  have t2:=same_new hl4 (.lst [V.int 1])
  have u2:=u1.trans t2
  refine⟨a,l4,_,_,rfl,rfl,u2 _ _ ha2,upd_same,Nat.le_trans (show _≤100 from ?_) (by decide),fun c4 hc4=>?_⟩
  ·rw [List.length_map]
   show _+1≤100
   omega
  obtain⟨t3,e4⟩:=new_at hc4 (.lst (ns.map iV++[V.int 1]))
  have f4:=fp u2 hc4
  have u3:=u2.trans t3
  refine⟨_,rfl,1,rfl,_,rfl,a,_,rfl,SqL.of (u3 _ _ ha2),fun c5 hc5=>?_⟩
  obtain⟨t4,e5⟩:=new_at hc5 (.lst (cutV (ns.map iV) none (some (-1))))
  have f5:=fp u3 hc5
  have u4:=u3.trans t4
  refine⟨by show 0≤sizeLine; decide,fun l6 hl6=>?_⟩
  obtain⟨t5,e6⟩:=new_at hl6 (.lst [])
  have f6:=fp u4 hl6
  have u5:=u4.trans t5
  refine⟨_,rfl,a,_,rfl,.inl (SqL.of (u5 _ _ ha2)),"2",ns.length,rfl,by rw [List.length_map],by decide,n4,fun z' d hd=>?_⟩
  obtain⟨t6,e7⟩:=new_at hd (.dK [])
  have f7:=fp u5 hd
  have u6:=u5.trans t6
  refine⟨by show 8≤sizeLine; decide,fun W hW=>?_⟩
  obtain⟨t7,eW⟩:=new_at hW (.lst [V.ref S,V.ref T,V.ref c4,V.ref c5,V.ref l6,V.str z',V.non,V.ref d])
  have fW:=fp u6 hW
  have u7:=u6.trans t7
  refine⟨_,rfl,p,8,rfl,hp2.keep u7,by decide,by decide,fun r9 H9 r90 r98 hp9 s9=>?_⟩
  have v67:=t6.trans t7
  have v57:=t5.trans v67
  have v47:=t4.trans v57
  have v37:=t3.trans v47
  have v17:=t1.trans (t2.trans v37)
  have gS:=s9 S _ fS (v17 _ _ eS)
  have gT:=s9 T _ fT ((t2.trans v37) _ _ eT)
  have g4:=s9 c4 _ f4 (v47 _ _ e4)
  have g5:=s9 c5 _ f5 (v57 _ _ e5)
  have g6:=s9 l6 _ f6 (v67 _ _ e6)
  have g7:=s9 d _ f7 (t7 _ _ e7)
  have gl:=s9 l _ nlp (u7 _ _ el2)
  have shv9:Sh H9 v:=by
   rcases hsh with z | rfl
   ·exact z H9
   ·exact .row (.inl gl)
  have ins:∀ y∈xs,Sh H9 y:=fun y hy=>by
   rcases yin y hy with z | rfl
   ·exact sh_nums y z
   ·exact shv9
  have nob:∀ ms:List Nat,xs=ms.map iV→¬ SizeOk ks ms:=fun ms e o=>bad (ok_of o (e▸vin))
  have lk:=ok.len
  obtain⟨v',hv',hn⟩:=at_eight (F:=NoSz H9 ks) (v0:=.ref S) (v1:=.ref T) (v2:=.ref c4) (v3:=.ref c5) (v4:=.ref l6) (v5:=.str z') (v6:=.non) (v7:=.ref d) r90 r98
   (nosz_row (.inl gS) ins nob) (nosz_row (.inr gT) ins nob)
   (nosz_row (.inl g4) (fun y hy=>by
    rcases List.mem_append.mp hy with z | z
    ·exact sh_nums y z
    ·rw [List.mem_singleton.mp z]; exact .int _) fun ms e o=>by
     have:=congrArg List.length e
     rw [List.length_append,List.length_map,List.length_map] at this
     have:=o.len
     simp at *
     omega)
   (nosz_row (.inl g5) (fun y hy=>sh_nums y (mem_cut hy)) fun ms e o=>by
     have:=congrArg List.length e
     rw [cut_last,List.length_map,List.length_map] at this
     have:=o.len
     omega)
   (nosz_row (.inl g6) (fun y hy=>(nomatch hy)) fun ms e o=>by
     have:=congrArg List.length e
     rw [List.length_map] at this
     have:=o.len
     simp at *
     omega)
   (nosz_none (.str _) rfl) (nosz_none .non rfl) (nosz_none (.dct g7) (row_dct g7))
  exact⟨W,_,r9,v',rfl,rfl,SqL.of (s9 W _ fW eW),hv',q v' H9 hp9 (fun b o n e=>s9 b o n (u7 _ _ (s02 b o n e))) hn⟩
end
end Few
namespace Few
open PySem PySem.Spec L2
theorem pe_defEN {X:Cx} {x:Str} {k:Nat} {ps:List Str} {sp:Sp} {p pos:Pos} {e:Expr} {es:List Expr} {t:TA} (D:DefE X.prog X.w X.K X.mg X.base x k ps sp) (hr:Room k X.A) (hg:Gl X x) (ha:PA X (e::es) t)
  (hdb:(x==("__debug__":Str))=false:=by decide) (he:starEach (e::es) X.env=(false,eval e X.env)::starEach es X.env:=by rfl) (hpl:(backTo pos (starEach es X.env)).any (·.1)=false:=by rfl) :
  PE X (.Call (.Name x p) (e::es) [] pos) (tCall sp [] E0 t):=by
 obtain⟨f,fd,hm,hk,hb,F⟩:=D
 exact pe_call F hr hg hm hk hb .nil (fun _ _ _ _ _ _ _ ⟨_,_,_,_,_,_,_,_,_,_,_,_,z⟩=>z.elim) ha hdb he hpl
def rowD (r:List Int):PyData:=.list (r.map .int)
def namD (nm:List (List Int)):PyData:=.list (nm.map rowD)
theorem rds_ints {H:Hp}:∀ (r:List Int),RdsA H (r.map V.int) (r.map PyData.int)
 | []=>.nil
 | i::r=>.cons (.int i) (rds_ints r)
theorem rds_lsts {H:Hp}:∀ {ls:List Addr} {nm:List (List Int)},LstsIn H ls nm→RdsA H (ls.map V.ref) (nm.map rowD)
 | _,_,.nil=>.nil
 | _,_,.cons e r=>.cons (.lst e (rds_ints _)) (rds_lsts r)
theorem rds_nams {H:Hp}:∀ {ts:List Addr} {nms:List (List (List Int))},NamsL H ts nms→RdsA H (ts.map V.ref) (nms.map namD)
 | _,_,.nil=>.nil
 | _,_,.cons ⟨os,e,q⟩ r=>.cons (.lst e (rds_lsts q)) (rds_nams r)
theorem lay_ints:∀ r:List Int,PyData.canLayAll0 (r.map PyData.int)=true
 | []=>rfl
 | i::r=>by
  show (PyData.canLay0 (.int i)&&PyData.canLayAll0 (r.map PyData.int))=true
  rw [lay_ints r]; rfl
theorem lay_rows:∀ nm:List (List Int),PyData.canLayAll0 (nm.map rowD)=true
 | []=>rfl
 | r::nm=>by
  show (PyData.canLay0 (rowD r)&&PyData.canLayAll0 (nm.map rowD))=true
  rw [lay_rows nm,show PyData.canLay0 (rowD r)=PyData.canLayAll0 (r.map PyData.int) from rfl,lay_ints]; rfl
theorem lay_nams:∀ nms:List (List (List Int)),PyData.canLayAll0 (nms.map namD)=true
 | []=>rfl
 | nm::nms=>by
  show (PyData.canLay0 (namD nm)&&PyData.canLayAll0 (nms.map namD))=true
  rw [lay_nams nms,show PyData.canLay0 (namD nm)=PyData.canLayAll0 (nm.map rowD) from rfl,lay_rows]; rfl
theorem dep_ints:∀ r:List Int,PyData.depthAll (r.map PyData.int)=0
 | []=>rfl
 | i::r=>by
  show max (PyData.depth (.int i)) (PyData.depthAll (r.map PyData.int))=0
  rw [dep_ints r]; rfl
theorem dep_rows:∀ nm:List (List Int),PyData.depthAll (nm.map rowD)≤1
 | []=>Nat.zero_le _
 | r::nm=>by
  show max (PyData.depth (rowD r)) (PyData.depthAll (nm.map rowD))≤1
  have:=dep_rows nm
  have e:PyData.depth (rowD r)=PyData.depthAll (r.map PyData.int)+1:=rfl
  rw [dep_ints] at e
  omega
theorem dep_row {r:List Int}:(rowD r).depth≤8:=by
 have e:PyData.depth (rowD r)=PyData.depthAll (r.map PyData.int)+1:=rfl
 rw [dep_ints] at e
 omega
theorem dep_nam {nm:List (List Int)}:(namD nm).depth≤8:=by
 have e:PyData.depth (namD nm)=PyData.depthAll (nm.map rowD)+1:=rfl
 have:=dep_rows nm
 omega
theorem alike_nams {H:Hp} {Q:VK} {a b:Addr} {v:V} {ts us:List Addr} {nms:List (List (List Int))} (ha:H a=some (.lst (ts.map V.ref))) (hb:H b=some (.lst (us.map V.ref))) (ht:NamsL H ts nms) (hu:NamsL H us nms) (q:Q v H):rAlikeI v (.ref a) (.ref b) H Q:=
 ⟨a,b,_,_,nms.map namD,rfl,rfl,ha,hb,rds_nams ht,rds_nams hu,lay_nams _,fun d hd=>by obtain⟨nm,_,rfl⟩:=List.mem_map.mp hd; exact dep_nam,q⟩
theorem alike_rows {H:Hp} {Q:VK} {a b:Addr} {v:V} {ts us:List Addr} {nm:List (List Int)} (ha:H a=some (.lst (ts.map V.ref))) (hb:H b=some (.lst (us.map V.ref))) (ht:LstsIn H ts nm) (hu:LstsIn H us nm) (q:Q v H):rAlikeI v (.ref a) (.ref b) H Q:=
 ⟨a,b,_,_,nm.map rowD,rfl,rfl,ha,hb,rds_lsts ht,rds_lsts hu,lay_rows _,fun d hd=>by obtain⟨r,_,rfl⟩:=List.mem_map.mp hd; exact dep_row,q⟩
theorem alike_ints {H:Hp} {Q:VK} {a b:Addr} {v:V} {r:List Int} (ha:H a=some (.lst (r.map V.int))) (hb:H b=some (.lst (r.map V.int))) (q:Q v H):rAlikeI v (.ref a) (.ref b) H Q:=
 ⟨a,b,_,_,r.map .int,rfl,rfl,ha,hb,rds_ints r,rds_ints r,lay_ints _,fun d hd=>by obtain⟨i,_,rfl⟩:=List.mem_map.mp hd; exact Nat.zero_le _,q⟩
theorem Tel.nams {H0 H:Hp} {ts:List Addr} {lss:List (List Addr)} {nms:List (List (List Int))} (h:Tel H0 H ts lss nms):NamsL H ts nms:=by
 have key:∀ {ts:List Addr} {nms:List (List (List Int))} {lss:List (List Addr)},ts.length=nms.length→lss.length=nms.length→(∀ (i:Nat) (t:Addr) (ls:List Addr) (nm:List (List Int)),ts[i]? = some t→lss[i]? = some ls→nms[i]? = some nm→H t=some (.lst (ls.map V.ref))∧LstsIn H ls nm)→NamsL H ts nms:=by
  intro ts
  induction ts with
  | nil=>intro nms lss e1 e2 _; cases nms with
   | nil=>exact .nil
   | cons=>cases e1
  | cons t ts ih=>
   intro nms lss e1 e2 r
   match nms,lss,e1,e2,r with
   | nm::nms,ls::lss,e1,e2,r=>
    obtain⟨z1,z2⟩:=r 0 t ls nm rfl rfl rfl
    exact .cons ⟨ls,z1,z2⟩ (ih (Nat.succ.inj e1) (Nat.succ.inj e2) fun i t' ls' nm' a b c=>r (i+1) t' ls' nm' a b c)
 exact key h.l1 h.l2 h.row
theorem Tel.cons {H0 H:Hp} {t l0:Addr} {ts ls:List Addr} {lss:List (List Addr)} {r0:List Int} {nm:List (List Int)} {nms:List (List (List Int))} (h:Tel H0 H (t::ts) ((l0::ls)::lss) ((r0::nm)::nms)) :
  H t=some (.lst (V.ref l0::ls.map V.ref))∧H l0=some (.lst (r0.map V.int))∧LstsIn H ls nm∧(∀ x∈ls,x≠l0)∧t≠l0∧NamsX l0 H ts nms:=by
 obtain⟨z1,z2⟩:=h.row 0 t _ _ rfl rfl rfl
 have nd:=h.n2
 rw [List.flatten_cons,List.cons_append,List.nodup_cons] at nd
 have n0:∀ x,x∈ls++lss.flatten→x≠l0:=fun x hx z=>nd.1 (z▸hx)
 have nt:∀ x,x∈t::ts→x≠l0:=fun x hx z=>h.n3 x hx (by rw [z,List.flatten_cons]; exact List.mem_append_left _ List.mem_cons_self)
 cases z2 with
 | cons e r=>
  refine⟨z1,e,r,fun x hx=>n0 x (List.mem_append_left _ hx),nt t List.mem_cons_self,?_⟩
  have key:∀ {ts:List Addr} {nms:List (List (List Int))} {lss:List (List Addr)},ts.length=nms.length→lss.length=nms.length→(∀ (i:Nat) (t:Addr) (ls:List Addr) (nm:List (List Int)),ts[i]? = some t→lss[i]? = some ls→nms[i]? = some nm→H t=some (.lst (ls.map V.ref))∧LstsIn H ls nm)→(∀ x∈ts,x≠l0)→(∀ x∈lss.flatten,x≠l0)→NamsX l0 H ts nms:=by
   intro ts
   induction ts with
   | nil=>intro nms lss e1 e2 _ _ _; cases nms with
    | nil=>exact .nil
    | cons=>cases e1
   | cons t ts ih=>
    intro nms lss e1 e2 r a1 a2
    match nms,lss,e1,e2,r,a2 with
    | nm::nms,ls::lss,e1,e2,r,a2=>
     obtain⟨z1,z2⟩:=r 0 t ls nm rfl rfl rfl
     exact .cons ⟨a1 t List.mem_cons_self,ls,fun o ho=>a2 o (by rw [List.flatten_cons]; exact List.mem_append_left _ ho),z1,z2⟩ (ih (Nat.succ.inj e1) (Nat.succ.inj e2) (fun i t' ls' nm' a b c=>r (i+1) t' ls' nm' a b c) (fun x hx=>a1 x (List.mem_cons_of_mem _ hx)) fun x hx=>a2 x (by rw [List.flatten_cons]; exact List.mem_append_right _ hx))
  exact key (Nat.succ.inj h.l1) (Nat.succ.inj h.l2) (fun i t' ls' nm' a b c=>h.row (i+1) t' ls' nm' a b c) (fun x hx=>nt x (List.mem_cons_of_mem _ hx)) fun x hx=>n0 x (List.mem_append_right _ hx)
theorem cut_rest (v:V) (xs:List V):cutV (v::xs) (some 1) none=xs:=by
 unfold cutV
 show ((v::xs).drop (min 1 (xs.length+1))).take (xs.length+1-min 1 (xs.length+1))=xs
 have e:min 1 (xs.length+1)=1:=by omega
 rw [e]
 show xs.take (xs.length+1-1)=xs
 simp
end Few
namespace Few
open PySem L2
theorem zms:LD "_law_due":=by decide +kernel
theorem zmt:LS "_law_due":=by decide +kernel
theorem zmu:LD "_law_handed":=by decide +kernel
theorem zmv:LS "_law_handed":=by decide +kernel
theorem zmw:LD "_law_signs_here":=by decide +kernel
theorem zmx:LS "_law_signs_here":=by decide +kernel
theorem zmy:LD "namings":=by decide +kernel
theorem iV_inj:∀ {ns ms:List Nat},ns.map iV=ms.map iV→ns=ms
 | [],[],_=>rfl
 | [],_::_,e=>by cases e
 | _::_,[],e=>by cases e
 | n::ns,m::ms,e=>by
  rw [List.map_cons,List.map_cons] at e
  injection e with e1 e2
  have : (n:Int)=(m:Int):=V.int.inj e1
  rw [iV_inj e2,show n=m by omega]
theorem Tel.first {H0 H:Hp} {ts:List Addr} {lss:List (List Addr)} {r0:List Int} {nm:List (List Int)} {nms:List (List (List Int))} (h:Tel H0 H ts lss ((r0::nm)::nms)):∃ t ts' l0 ls lss',ts=t::ts'∧lss=(l0::ls)::lss':=by
 match ts,lss,h with
 | [],_,h=>cases h.l1
 | _::_,[],h=>cases h.l2
 | t::ts,[]::lss,h=>obtain⟨_,z⟩:=h.row 0 t _ _ rfl rfl rfl; cases z
 | t::ts,(l0::ls)::lss,h=>exact⟨t,ts,l0,ls,lss,rfl,rfl⟩
theorem all_lists {K:PySem.W.Frag} {te:TE} {σ:St} {a:Addr} {as:List Addr} {G:Hp} {Q:VK} (ha:G a=some (.lst (as.map V.ref))) (hl:as.length≤1000) (hy:∀ y∈as,∃ zs,G y=some (.lst zs)) (hte:∀ y Q',(∃ zs,G y=some (.lst zs))→Q' (.bl true) G→te (some (.ref y)::σ) G Q')
  (q:∀ D,G D=none→Q (.ref D) (upd G D (.lst ((List.replicate as.length true).map V.bl)))):CompOk 1 (Itl K a) (gName 0) te σ G Q:=by
 refine comp_it1 as.length (fun i ys H2=>H2=G∧ys=(List.replicate i true).map V.bl) (fun i x=>(as.map V.ref)[i]? = some x) ⟨rfl,rfl⟩ (Nat.le_trans hl (by decide)) (fun i ys H2 hi _ ⟨z,_⟩=>z▸go_list (SqL.of ha) (by rw [List.length_map]; exact hi)) (fun ys H2 _ ⟨z,_⟩=>by subst z; have:=stop_list (K:=K) (SqL.of (K:=K) ha); rw [List.length_map] at this; exact this) ?_ ?_
 ·rintro i x ys H2 hi hx _ ⟨rfl,rfl⟩
  rw [List.getElem?_map] at hx
  obtain⟨y,hy',rfl⟩:=Option.map_eq_some_iff.mp hx
  exact hte y _ (hy y (List.mem_of_getElem? hy')) ⟨rfl,by rw [List.replicate_succ',List.map_append]; rfl⟩
 ·rintro ys H2 _ ⟨rfl,rfl⟩ D hD
  exact q D hD
theorem all_true (n:Nat):(List.replicate n true).all id=true:=by simp
theorem nams_lst {H:Hp} {ts:List Addr} {nms:List (List (List Int))} (h:NamsL H ts nms):∀ y∈ts,∃ zs,H y=some (.lst zs):=fun y hy=>by
 obtain⟨i,hi⟩:=List.getElem?_of_mem hy
 obtain⟨_,_,os,e,_⟩:=Paired.at h hi
 exact⟨_,e⟩
theorem lsts_lst {H:Hp} {ts:List Addr} {nm:List (List Int)} (h:LstsIn H ts nm):∀ y∈ts,∃ zs,H y=some (.lst zs):=fun y hy=>by
 obtain⟨i,hi⟩:=List.getElem?_of_mem hy
 obtain⟨_,_,e⟩:=Paired.at h hi
 exact⟨_,e⟩
theorem allN_rows {ns:List Nat}:(∀ n∈ns,n≤4)→∀ nm∈allN ns,∀ r∈nm,r.length≤4:=by
 refine snocInd (Pv:=fun ns=>(∀ n∈ns,n≤4)→∀ nm∈allN ns,∀ r∈nm,r.length≤4) ?_ ?_ ns
 ·intro _ nm hn r hr
  rw [List.mem_singleton.mp (show nm∈[[]] from hn)] at hr
  cases hr
 ·intro l n ih h4 nm hn r hr
  rw [allN_snoc] at hn
  obtain⟨q,hq,hm⟩:=List.mem_flatMap.mp hn
  obtain⟨o,ho,rfl⟩:=List.mem_map.mp hm
  rcases List.mem_append.mp hr with z | z
  ·exact ih (fun m hm=>h4 m (List.mem_append_left _ hm)) q hq r z
  ·rw [List.mem_singleton.mp z,ordK_len ho]
   exact h4 n (List.mem_append_right _ List.mem_cons_self)
theorem at_z (v:V) (xs:List V):atI (v::xs) 0=some v:=by
 unfold atI ixN
 simp
theorem at_last {t:Addr} {ts:List Addr}:∃ z∈t::ts,atI ((t::ts).map V.ref) (-1)=some (.ref z):=by
 have hlt:ts.length<(t::ts).length:=Nat.lt_succ_self _
 refine⟨(t::ts)[ts.length],List.getElem_mem hlt,?_⟩
 have e:ixN (List.map V.ref (t::ts)).length (-1)=some ts.length:=by
  unfold ixN
  rw [List.length_map,List.length_cons,if_neg (by decide)]
  simp
  omega
 unfold atI
 rw [e]
 show (List.map V.ref (t::ts))[ts.length]? = _
 rw [List.getElem?_map,List.getElem?_eq_getElem hlt]
 rfl
section
variable {P:Program} {w:World} {K:PySem.W.Frag} {mg:Str→Option Value} {base:Heap}
abbrev s_law_is_told:Stmt:=top 51
theorem zmz:FnScope ["_law_signs_here","_law_handed","_law_due","_law_told","_law_naming"] ["_law_signs_here","_law_handed","_law_due"] (defScope s_law_is_told):=⟨rfl,rfl,rfl,by decide +kernel,rfl,by decide +kernel,by decide +kernel⟩
theorem zm0:LN .local s_law_is_told "_law_due":=by decide +kernel
theorem zm1:LN .local s_law_is_told "_law_handed":=by decide +kernel
theorem zm2:LN .local s_law_is_told "_law_naming":=by decide +kernel
theorem zm3:LN .local s_law_is_told "_law_signs_here":=by decide +kernel
theorem zm4:LN .local s_law_is_told "_law_told":=by decide +kernel
theorem zm5:LN .globalImplicit s_law_is_told "all":=by decide +kernel
theorem zm6:LN .globalImplicit s_law_is_told "namings":=by decide +kernel
abbrev QS14:Scope:={kind:=PySem.ScopeKind.function,names:=[ (PySem.Str.ofString ".0",PySem.NameKind.local),(PySem.Str.ofString "_law_order",PySem.NameKind.local),(PySem.Str.ofString "isinstance",PySem.NameKind.globalImplicit),(PySem.Str.ofString "list",PySem.NameKind.globalImplicit)],isGenerator:=false,isCoroutine:=false,more:=[]:PySem.Scope}
theorem zm7:CompSc 1 ["_law_order","_law_signs_here","_law_handed","_law_due","_law_told","_law_naming"] ["_law_signs_here","_law_handed","_law_due","_law_told","_law_naming"] (defScope s_law_is_told) QS14:=⟨rfl,by decide +kernel,by decide +kernel,by decide +kernel,by decide +kernel,rfl,by decide +kernel⟩
theorem zm8:LC .local QS14 "_law_order":=by decide +kernel
theorem zm9:LC .globalImplicit QS14 "isinstance":=by decide +kernel
theorem zna:LC .globalImplicit QS14 "list":=by decide +kernel
abbrev QS15:Scope:={kind:=PySem.ScopeKind.function,names:=[ (PySem.Str.ofString ".0",PySem.NameKind.local),(PySem.Str.ofString "_law_naming",PySem.NameKind.local),(PySem.Str.ofString "isinstance",PySem.NameKind.globalImplicit),(PySem.Str.ofString "list",PySem.NameKind.globalImplicit)],isGenerator:=false,isCoroutine:=false,more:=[]:PySem.Scope}
theorem znb:CompSc 1 ["_law_naming","_law_signs_here","_law_handed","_law_due","_law_told",".h_law_naming"] ["_law_signs_here","_law_handed","_law_due","_law_told","_law_naming"] (defScope s_law_is_told) QS15:=⟨rfl,by decide +kernel,by decide +kernel,by decide +kernel,by decide +kernel,rfl,by decide +kernel⟩
theorem znc:LC .local QS15 "_law_naming":=by decide +kernel
theorem znd:LC .globalImplicit QS15 "isinstance":=by decide +kernel
theorem zne:LC .globalImplicit QS15 "list":=by decide +kernel
def spTold (C:Addr):Sp:=fun vs H Q _=>∃ (x:Addr) (v:V) (d:Addr) (ks:List Str) (ts:List TieR) (fs:List FunR) (ns:List Nat) (ds:List Addr),vs=[.ref x,v,.ref d]∧SignsAt C H x ks ts fs∧ks.length≤4∧Sh H v∧rowOf H v=some (ns.map iV)∧SizeOk ks ns∧prodN ns≤576∧1≤ns.length∧H d=some (.lst (ds.map V.ref))∧NamsL H ds (allN ns)∧∀ H',Same H H'→Q (.bl true) H'
theorem ok_told {C N M:Addr} (F:FunAt K mg "_law_is_told" s_law_is_told ["_law_signs_here","_law_handed","_law_due"]) (Z:Bl mg) (D_namings:DefE P w K mg base "namings" 4 ["signs","size"] (spNam C N M)):Def P w K mg base "_law_is_told" 5 ["_law_signs_here","_law_handed","_law_due"] (spTold C):=by
 have SC:=zmz
 refine F.mk' (k:=4) zmz (fun vs H Q E h=>?_) (fun f cdv A outer s H vs Q E hr h=>?_)
 ·obtain⟨x,v,d,ks,ts,fs,ns,ds,rfl,_⟩:=h
  rfl
 ·obtain⟨x,v,d,ks,ts,fs,ns,ds,rfl,hS,k4,hv,hrow,ok,np,n1,hd,hD,q⟩:=h
  refine'⟨_,?derivation,?_⟩
  case derivation=>refine' pss_cons ?Aa ?Ba;(case Aa=>refine' ps_set (i:=3) (x:=Str.ofString "_law_told") ?Ca ?Da ?Ea ?Fa ?Ga ?Ha;(case Ca=>exact SC.nd);(case Da=>exact rfl);(case Ea=>exact(Or.inl zm4));(case Fa=>refine' pe_defEN (hdb:=zmy) D_namings (hr.mono (by decide)) zm6 ?Ia rfl rfl;case Ia=>refine' pa_cons (pq 0 (visL zm3) zmw zmx) ?Ja ?Ka;(case Ja=>refine' pa_cons (pq 1 (visL zm1) zmu zmv) pa_nil ?La;case La=>rfl);case Ka=>rfl);(case Ga=>rfl);case Ha=>exact .inl rfl);case Ba=>refine' pss_cons ?Ma ?Na;(case Ma=>refine' ps_if ?Oa ?Pa pss_nil;(case Oa=>refine' PW.pt ?Qa;case Qa=>refine' pw_or ?Ra ?Sa;(case Ra=>refine' pt_cmpR (op_neD hr.units) (pq 3 (visL zm4) zlr zls) (pq 2 (visL zm0) zms zmt) (nomark _));case Sa=>refine' pw_or1 ?Ta;case Ta=>refine' pt_not ?Ua;case Ua=>refine' pt_val ?Va ?Wa;(case Va=>refine' pe_callB (hn:=zdy) (hdb:=zdx) (call_allB rfl) zm5 Z.n_all bt_all ?Xa rfl rfl;case Xa=>refine' pa_cons ?Ya pa_nil ?Za;(case Ya=>refine' pe_comp noxe rfl znb.at ?Ab ?Bb ?Cb ?Db;(case Ab=>refine' pi_list (pq 3 (visL zm4) zlr zls));(case Bb=>intro _ _ _ _ _;refine' pg_name (i:=0) znb.nd rfl (locO znc) (.inr (lookup_relabel_local znc)));(case Cb=>intro _ _ _ _ _;refine' pe_callB (hn:=zd8) (hdb:=zd7) (call_isiT (T:="list")) (glO znd) Z.n_isinstance bt_isinstance ?Eb rfl rfl;case Eb=>refine' pa_cons (pq 0 (visO znc) zka zkb) ?Fb ?Gb;(case Fb=>refine' pa_cons ?Hb pa_nil ?Ib;(case Hb=>refine' pe_bltn (v:=V.ty "list") (hn:=zby) (hd:=zbx) (glO zne) Z.n_list bt_list rfl);case Ib=>rfl);case Gb=>rfl);case Db=>intro _; rfl);case Za=>rfl);case Wa=>intro _; rfl);case Pa=>refine' pss_one ?Jb;case Jb=>refine' ps_ret ?Kb;case Kb=>exact pe_bl);case Na=>refine' pss_cons ?Lb ?Mb;(case Lb=>refine' ps_for PassesOwn.never rfl ?Nb ?Ob ?Pb ?Qb;(case Nb=>refine' pi_list (pq 3 (visL zm4) zlr zls));(case Ob=>refine' pg_name (i:=4) (x:=Str.ofString "_law_naming") SC.nd rfl (Or.inl zm2) (.inl rfl));(case Pb=>refine' pss_one ?Rb;case Rb=>refine' ps_if ?Sb ?Tb pss_nil;(case Sb=>refine' pt_not ?Ub;case Ub=>refine' pt_val ?Vb ?Wb;(case Vb=>refine' pe_callB (hn:=zdy) (hdb:=zdx) (call_allB rfl) zm5 Z.n_all bt_all ?Xb rfl rfl;case Xb=>refine' pa_cons ?Yb pa_nil ?Zb;(case Yb=>refine' pe_comp noxe rfl zm7.at ?Ac ?Bc ?Cc ?Dc;(case Ac=>refine' pi_list (pq 4 (visL zm2) zka zkb));(case Bc=>intro _ _ _ _ _;refine' pg_name (i:=0) zm7.nd rfl (locO zm8) (.inr (lookup_relabel_local zm8)));(case Cc=>intro _ _ _ _ _;refine' pe_callB (hn:=zd8) (hdb:=zd7) (call_isiT (T:="list")) (glO zm9) Z.n_isinstance bt_isinstance ?Ec rfl rfl;case Ec=>refine' pa_cons (pq 0 (visO zm8) zkc zkd) ?Fc ?Gc;(case Fc=>refine' pa_cons ?Hc pa_nil ?Ic;(case Hc=>refine' pe_bltn (v:=V.ty "list") (hn:=zby) (hd:=zbx) (glO zna) Z.n_list bt_list rfl);case Ic=>rfl);case Gc=>rfl);case Dc=>intro _; rfl);case Zb=>rfl);case Wb=>intro _; rfl);case Tb=>refine' pss_one ?Jc;case Jc=>refine' ps_ret ?Kc;case Kc=>exact pe_bl);case Qb=>intro _; rfl);case Mb=>refine' pss_cons ?Lc ?Mc;(case Lc=>refine' ps_expr ?Nc rfl;case Nc=>refine' pe_bm PySem.F.plainAttrs_list PySem.F.slot_list_append PySem.F.type_list_append mt_append ?Oc ?Pc rfl rfl rfl rfl rfl;(case Oc=>refine' pe_ix ix_list ?Qc ?Rc ?Sc;(case Qc=>refine' pe_ix ix_list (pq 3 (visL zm4) zlr zls) ?Tc ?Uc;(case Tc=>exact pe_int);case Uc=>intro _ _;exact rfl);(case Rc=>exact pe_int);case Sc=>intro _ _;exact rfl);case Pc=>refine' pa_cons ?Vc pa_nil ?Wc;(case Vc=>exact pe_int);case Wc=>rfl);case Mc=>refine' pss_cons ?Xc ?Yc;(case Xc=>refine' ps_if ?Zc ?Ad pss_nil;(case Zc=>refine' PW.pt ?Bd;case Bd=>refine' pw_or ?Cd ?Dd;(case Cd=>refine' pt_cmpR (op_neD hr.units) ?Ed ?Fd (nomark _);(case Ed=>refine' pe_slice sl_list (pq 3 (visL zm4) zlr zls) ?Gd po_none;case Gd=>refine' po_some ?Hd;case Hd=>exact pe_int);case Fd=>refine' pe_slice sl_list (pq 2 (visL zm0) zms zmt) ?Id po_none;case Id=>refine' po_some ?Jd;case Jd=>exact pe_int);case Dd=>refine' pw_or1 ?Kd;case Kd=>refine' pt_cmpR (op_neD hr.units) ?Ld ?Md (nomark _);(case Ld=>refine' pe_slice sl_list ?Nd ?Od po_none;(case Nd=>refine' pe_ix ix_list (pq 3 (visL zm4) zlr zls) ?Pd ?Qd;(case Pd=>exact pe_int);case Qd=>intro _ _;exact rfl);case Od=>refine' po_some ?Rd;case Rd=>exact pe_int);case Md=>refine' pe_slice sl_list ?Sd ?Td po_none;(case Sd=>refine' pe_ix ix_list (pq 2 (visL zm0) zms zmt) ?Ud ?Vd;(case Ud=>exact pe_int);case Vd=>intro _ _;exact rfl);case Td=>refine' po_some ?Wd;case Wd=>exact pe_int);case Ad=>refine' pss_one ?Xd;case Xd=>refine' ps_ret ?Yd;case Yd=>exact pe_bl);case Yc=>refine' pss_cons ?Zd ?Ae;(case Zd=>refine' ps_expr ?Be rfl;case Be=>refine' pe_bm0 PySem.F.plainAttrs_list PySem.F.slot_list_clear PySem.F.type_list_clear mt_clear ?Ce rfl rfl;case Ce=>refine' pe_ix ix_list (pq 3 (visL zm4) zlr zls) ?De ?Ee;(case De=>refine' pe_un un_neg ?Fe;case Fe=>exact pe_int);case Ee=>intro _ _;exact rfl);case Ae=>refine' pss_cons ?Ge ?He;(case Ge=>refine' ps_expr ?Ie rfl;case Ie=>refine' pe_bm PySem.F.plainAttrs_list PySem.F.slot_list_append PySem.F.type_list_append mt_append (pq 3 (visL zm4) zlr zls) ?Je rfl rfl rfl rfl rfl;case Je=>refine' pa_cons ?Ke pa_nil ?Le;(case Ke=>refine' pe_lst pa_nil);case Le=>rfl);case He=>refine' pss_one ?Me;case Me=>refine' ps_ret ?Ne;case Ne=>refine' pe_cmpR (op_eqD hr.units) ?Oe (pq 2 (visL zm0) zms zmt) (nomark _);case Oe=>refine' pe_defEN (hdb:=zmy) D_namings (hr.mono (by decide)) zm6 ?Pe rfl rfl;case Pe=>refine' pa_cons (pq 0 (visL zm3) zmw zmx) ?Qe ?Re;(case Qe=>refine' pa_cons (pq 1 (visL zm1) zmu zmv) pa_nil ?Se;case Se=>rfl);case Re=>rfl
  have hin:∀ xs,rowOf H v=some xs→∀ y∈xs,Sh H y:=fun xs e=>by rw [hrow] at e; cases e; exact sh_nums
  have good:Good H ks v:=⟨ns,hrow,ok⟩
  have al:(allN ns).length=prodN ns:=allN_length ok.four
  have pp:=prodN_pos ns
  obtain⟨r0,nm,nms,enm⟩:∃ r0 nm nms,allN ns=(r0::nm)::nms:=by
   match e:allN ns with
   | []=>rw [e] at al; simp at al; omega
   | []::_=>have:=allN_len (ns:=ns) (r:=[]) (by rw [e]; exact List.mem_cons_self); simp at this; omega
   | (r0::nm)::nms=>exact⟨r0,nm,nms,rfl⟩
  have lk:∀ G,Same H G→∀ Q:VK,(∀ l ts lss H',G l=none→H' l=some (.lst (ts.map V.ref))→Tel G H' ts lss ((r0::nm)::nms)→(¬ l∈ts∧¬ l∈lss.flatten)→Same G H'→Q (.ref l) H')→spNam C N M [.ref x,v] G Q E0:=fun G s Q k=>by
   have hr2:rowOf G v=some (ns.map iV):=by rw [hv.rows s]; exact hrow
   refine⟨x,v,ks,ts,fs,rfl,hS.same s,k4,hv.same s,fun xs e=>by rw [hr2] at e; cases e; exact sh_nums,fun ms e o _=>?_,fun ms e o z=>?_,fun z=>absurd ⟨ns,hr2,ok⟩ z⟩
   ·rw [hr2] at e
    cases iV_inj (Option.some.inj e)
    rw [enm]; exact k
   ·rw [hr2] at e
    cases iV_inj (Option.some.inj e)
    omega
  rw [enm] at hD
  have nl576:nms.length+1≤576:=by rw [enm,List.length_cons] at al; omega
  have nmlen:∀ q∈(r0::nm)::nms,q.length≤4:=fun q hq=>by rw [← enm] at hq; rw [allN_len hq,ok.len]; exact k4
  refine⟨_,rfl,_,rfl,?_⟩
  dsimp only [tNil]
  refine lk H (Same.refl _) _ fun l tl lss H1 fl el T nl s1=>?_
  refine⟨_,rfl,_,rfl,alike_nams el (s1 _ _ hd) T.nams (NamsL.same s1 hD) ⟨false,rfl,?_⟩⟩
  have tlen:tl.length=nms.length+1:=T.l1
  refine ifF (by decide) ⟨_,rfl,l,rfl,⟨_,SqL.of el⟩,fun cl C' ex s0 Hc=>all_lists el (by omega) (nams_lst T.nams) (fun y Q' ⟨zs,e⟩ q'=>⟨_,rfl,_,_,true,rfl,.lst e,rfl,q'⟩) fun D hD=>⟨D,List.replicate tl.length true,rfl,SqL.of upd_same,_,rfl,?_⟩⟩
  rw [all_true]
  refine ifF (by decide) ?_
  have sD:=same_new hD (.lst ((List.replicate tl.length true).map V.bl))
  have T:=T.same sD
  have el:=sD _ _ el
  have s1:=s1.trans sD
  clear sD hD
  generalize (upd H1 D (.lst ((List.replicate tl.length true).map V.bl)))=H1 at *
  refine⟨_,rfl,l,rfl,⟨_,SqL.of el⟩,for_list (xs:=tl.map V.ref) (fun i σ H2=>Same H1 H2∧∃ v4,σ=[some (.ref x),some v,some (.ref d),some (.ref l),v4]) ⟨Same.refl _,none,rfl⟩ (fun i σ H2 _ ⟨z,_⟩=>SqL.of (z _ _ el)) ?_ ?_⟩
  ·rintro i y σ H2 hi ⟨s2,v4,rfl⟩
   rw [List.getElem?_map] at hi
   obtain⟨t,ht,rfl⟩:=Option.map_eq_some_iff.mp hi
   obtain⟨nq,hq,os,e,ro⟩:=Paired.at (NamsL.same s2 T.nams) ht
   have osl:os.length=nq.length:=Paired.length ro
   have:=nmlen nq (List.mem_of_getElem? hq)
   refine⟨_,rfl,t,rfl,⟨_,SqL.of e⟩,fun cl C' ex s0 Hc=>all_lists e (by omega) (lsts_lst ro) (fun y Q' ⟨zs,e⟩ q'=>⟨_,rfl,_,_,true,rfl,.lst e,rfl,q'⟩) fun D hD=>⟨D,List.replicate os.length true,rfl,SqL.of upd_same,_,rfl,?_⟩⟩
   rw [all_true]
   exact ifF (by decide) ⟨s2.trans (same_new hD _),_,rfl⟩
  rintro σ H2 ⟨s2,v4,rfl⟩
  have T:=T.same s2
  have el:=s2 _ _ el
  have s1:=s1.trans s2
  clear s2
  obtain⟨t,tl',l0,ls,lss',rfl,rfl⟩:=T.first
  obtain⟨et,e0,rls,nls,nt0,X0⟩:=T.cons
  have f0:H l0=none:=T.f2 l0 (by rw [List.flatten_cons]; exact List.mem_append_left _ List.mem_cons_self)
  have nl0:l≠l0:=fun z=>nl.2 (by rw [z,List.flatten_cons]; exact List.mem_append_left _ List.mem_cons_self)
  have r04:r0.length≤4:=allN_rows ok.four (r0::nm) (by rw [enm]; exact List.mem_cons_self) r0 List.mem_cons_self
  refine⟨_,rfl,l,_,0,.ref t,rfl,rfl,SqL.of el,at_z _ _,t,_,0,.ref l0,rfl,rfl,SqL.of et,at_z _ _,.inl ⟨rfl,_,SqL.of e0⟩,l0,_,.int 9,rfl,rfl,e0,by rw [List.length_map]; exact Nat.lt_of_le_of_lt r04 (by decide),?_⟩
  have s3:Same H (upd H2 l0 (.lst (r0.map V.int++[.int 9]))):=fun b o e=>by rw [upd_ne (ne_of_none e f0)]; exact s1 _ _ e
  have el3:(upd H2 l0 (.lst (r0.map V.int++[.int 9]))) l=some (.lst (V.ref t::tl'.map V.ref)):=by rw [upd_ne nl0]; exact el
  have et3:(upd H2 l0 (.lst (r0.map V.int++[.int 9]))) t=some (.lst (V.ref l0::ls.map V.ref)):=by rw [upd_ne nt0]; exact et
  have ls3:LstsIn (upd H2 l0 (.lst (r0.map V.int++[.int 9]))) ls nm:=lsts_put nls rls
  have X3:NamsL (upd H2 l0 (.lst (r0.map V.int++[.int 9]))) tl' nms:=(NamsX.put X0).out
  generalize (upd H2 l0 (.lst (r0.map V.int++[.int 9])))=H3 at *
  obtain⟨d0,ds',o0,os',rfl,ed0,hos,hD'⟩:∃ d0 ds' o0 os',ds=d0::ds'∧H d0=some (.lst (V.ref o0::os'.map V.ref))∧LstsIn H os' nm∧NamsL H ds' nms:=by
   cases hD with
   | cons h r=>
    obtain⟨os,e,q⟩:=h
    cases q with
    | cons h2 r2=>exact⟨_,_,_,_,rfl,e,r2,r⟩
  refine⟨_,rfl,_,rfl,l,_,rfl,SqL.of el3,fun A hA=>?_⟩
  rw [cut_rest]
  obtain⟨sA,eA⟩:=new_at hA (.lst (tl'.map V.ref))
  refine⟨_,rfl,_,rfl,d,_,rfl,SqL.of (sA _ _ (s3 _ _ hd)),fun B hB=>?_⟩
  rw [List.map_cons,cut_rest]
  obtain⟨sB,eB⟩:=new_at hB (.lst (ds'.map V.ref))
  have sAB:=sA.trans sB
  refine alike_nams (sB _ _ eA) eB (NamsL.same sAB X3) (NamsL.same (s3.trans sAB) hD') ⟨false,rfl,ifF (by decide) ?_⟩
  refine⟨_,rfl,l,_,0,_,rfl,rfl,SqL.of (sAB _ _ el3),at_z _ _,_,rfl,t,_,rfl,SqL.of (sAB _ _ et3),fun A2 hA2=>?_⟩
  rw [cut_rest]
  obtain⟨sA2,eA2⟩:=new_at hA2 (.lst (ls.map V.ref))
  have sA2':=sAB.trans sA2
  refine⟨_,rfl,d,_,0,_,rfl,rfl,SqL.of (sA2' _ _ (s3 _ _ hd)),at_z _ _,_,rfl,d0,_,rfl,SqL.of (sA2' _ _ (s3 _ _ ed0)),fun B2 hB2=>?_⟩
  rw [cut_rest]
  obtain⟨sB2,eB2⟩:=new_at hB2 (.lst (os'.map V.ref))
  have sF:=sA2'.trans sB2
  refine alike_rows (sB2 _ _ eA2) eB2 (Paired.mapP ls3 fun _ _ e=>sF _ _ e) (Paired.mapP hos fun _ _ e=>sF _ _ (s3 _ _ e)) ⟨false,rfl,ifF (by decide) ?_⟩
  have el4:=sF _ _ el3
  have s4:=s3.trans sF
  have lst4:∀ z∈t::tl',∃ zs,(upd (upd (upd (upd H3 A (.lst (tl'.map V.ref))) B (.lst (ds'.map V.ref))) A2 (.lst (ls.map V.ref))) B2 (.lst (os'.map V.ref))) z=some (.lst zs):=fun z hz=>by
   rcases List.mem_cons.mp hz with rfl | hz
   ·exact⟨_,sF _ _ et3⟩
   ·obtain⟨zs,e⟩:=nams_lst X3 z hz
    exact⟨zs,sF _ _ e⟩
  generalize (upd (upd (upd (upd H3 A (.lst (tl'.map V.ref))) B (.lst (ds'.map V.ref))) A2 (.lst (ls.map V.ref))) B2 (.lst (os'.map V.ref)))=H4 at el4 s4 lst4
  obtain⟨z,hz,az⟩:=at_last (t:=t) (ts:=tl')
  obtain⟨zs,ez⟩:=lst4 z hz
  have fz:H z=none:=T.f1 z hz
  have nzl:l≠z:=fun e=>nl.1 (e▸hz)
  refine⟨_,rfl,1,rfl,l,_,-1,.ref z,rfl,rfl,SqL.of el4,az,.inl ⟨rfl,_,SqL.of ez⟩,z,_,rfl,rfl,ez,?_⟩
  have s5:Same H (upd H4 z (.lst [])):=fun b o e=>by rw [upd_ne (ne_of_none e fz)]; exact s4 _ _ e
  have el5:(upd H4 z (.lst [])) l=some (.lst (V.ref t::tl'.map V.ref)):=by rw [upd_ne nzl]; exact el4
  generalize (upd H4 z (.lst []))=H5 at *
  refine⟨_,rfl,.inl ⟨rfl,_,SqL.of el5⟩,by show 0≤sizeLine; decide,fun em hem=>⟨l,_,_,rfl,rfl,same_new hem _ _ _ el5,Nat.lt_of_le_of_lt (show _≤600 from ?_) (by decide),?_⟩⟩
  ·rw [List.length_cons] at tlen
   show (tl'.map V.ref).length+1≤600
   rw [List.length_map]
   omega
  have s6:Same H (upd (upd H5 em (.lst [])) l (.lst (V.ref t::tl'.map V.ref++[V.ref em]))):=fun b o e=>by rw [upd_ne (ne_of_none e fl)]; exact same_new hem _ _ _ (s5 _ _ e)
  refine⟨_,rfl,_,rfl,?_⟩
  dsimp only [tNil]
  refine lk _ s6 _ fun l2 tl2 lss2 H9 fl2 el2 T2 nl2 s9=>?_
  have s69:=s6.trans s9
  exact⟨_,rfl,alike_nams el2 (s69 _ _ hd) T2.nams (NamsL.same s69 hD) (q H9 s69)⟩
end
end Few
namespace L2
open PySem PySem.Spec PyProof.Rows
theorem Fun.okC {P:Program} {w:World} {K:PySem.W.Frag} {mg:Str→Option Value} {base:Heap} {x qual:Str} {st:Stmt} {f c:Addr} {fd:FuncData} {N ps:List Str} {k:Nat} {sp:Sp} (F:Fun K x qual st f fd) (hc:fd.code=.ref c) (S:FnScope N ps (defScope st)) (len:∀ vs H Q E,sp vs H Q E→vs.length=ps.length)
  (hbody:∀ (A:Around) (outer:List Env) (s:Shared) (H:Hp) (vs:List V) (Q:VK) (E:XK),Room k (A.deeper (envOfC qual (defScope st) s.heap.objs.size f (.ref c)))→sp vs H Q E→
   ∃ t,PSs (cxOf CX0 P w K mg base N qual (defScope st) f (.ref c) A outer s H E).nox (defBody st) t∧t {nx:=fun _ H'=>Q .non H',rt:=Q} (start N vs) H):FnOk P w K mg base CX0 (k+1) f fd ps sp:=by
 obtain⟨oc,od,kV,doc,pm,an,cdv,ct,osl,rfl,lk,hcd⟩:=F.ex
 obtain rfl:cdv=.ref c:=hc
 refine fn_of lk hcd S len fun A outer s H vs Q E hr hsp=>?_
 obtain⟨t,h,q⟩:=hbody A outer s H vs Q E hr hsp
 exact⟨t,h.nox,q⟩
theorem framed_lam {P:Program} {w:World} {K:PySem.W.Frag} {mg:Str→Option Value} {base:Heap} {N:List Str} {qual:Str} {scope:Scope} {cl:List (Str×Addr)} {f:Addr} {cd:Value} {A:Around} {outer:List Env} {s:Shared} {H:Hp} {E:XK}:Framed (cxLam P w K mg base N qual scope cl f cd A outer s H E):=⟨_,_,_,rfl,rfl,rfl⟩
theorem TblOk.same {H H':Hp} {T:Addr} {q:Str} (h:TblOk H T q) (s:Same H H'):TblOk H' T q:=let ⟨ps,e,t,c⟩:=h; ⟨ps,s _ _ e,t,fun p v z=>let ⟨a,e1,e2⟩:=c p v z; ⟨a,e1,s _ _ e2⟩⟩
theorem TblOk.went {H H':Hp} {T p:Addr} {q:Str} {xs:List V} (h:TblOk H T q) (hp:H p=some (.lst xs)) (s:SameX p H H'):TblOk H' T q:=by
 obtain⟨ps,e,t,c⟩:=h
 refine⟨ps,s _ _ (fun z=>?_) e,t,fun p' v z=>?_⟩
 ·rw [z,hp] at e; cases e
 ·obtain⟨a,e1,e2⟩:=c p' v z
  refine⟨a,e1,s _ _ (fun z=>?_) e2⟩
  rw [z,hp] at e2; cases e2
end L2
namespace Few
open PySem L2
section
variable {P:Program} {w:World} {K:PySem.W.Frag} {mg:Str→Option Value} {base:Heap}
theorem lam_body {C N M:Addr} {y qual:Str} {scope:Scope} {p1 p2 p3 p4:Pos} (D:DefE P w K mg base "namings" 4 ["signs","size"] (spNam C N M)) (hg:scope.names.lookup (Str.ofString "namings")=some .globalImplicit) (h1:scope.names.lookup (Str.ofString "_law_signs_here")=some .free) (h2:scope.names.lookup y=some .free)
  (hd:(y==("__debug__":Str))=false) (hc:(y==("__classdict__":Str))=false):∀ cl f cd A outer s H E,Room 4 (A.deeper (envX qual scope s.heap.objs.size f cd cl))→PE ((cxLam P w K mg base ["_law_signs_here",y] qual scope cl f cd A outer s H E).exc E) (.Call (.Name "namings" p1) [.Name "_law_signs_here" p2,.Name y p3] [] p4) (tCall (spNam C N M) [] E (tCons (tVar 0) (tCons (tVar 1) tNil))):=by
 intro cl f cd A outer s H E hr
 refine' pe_defE (hdb:=by decide +kernel) framed_lam ?d ?r ?g ?a ?e1 ?e2
 case d=>exact D
 case r=>exact hr
 case g=>exact hg
 case a=>
  refine' pa_cons ?b1 ?b2 ?b3
  case b1=>exact(pq 0 (.inr (.inr h1)) (by decide +kernel) (by decide +kernel))
  case b2=>
   refine' pa_cons ?c1 ?c2 ?c3
   case c1=>exact(pq 1 (x:=y) (.inr (.inr h2)) hd hc)
   case c2=>exact pa_nil
   case c3=>rfl
  case b3=>rfl
 case e1=>rfl
 case e2=>rfl
end
theorem znf:LD "_law_all_namings":=by decide +kernel
theorem zng:LD "_law_book":=by decide +kernel
theorem znh:LD "_law_cell":=by decide +kernel
theorem zni:LD "_law_is_told":=by decide +kernel
theorem znj:LD "_law_many_namings":=by decide +kernel
theorem znk:LD "_law_no_size":=by decide +kernel
theorem znl:LD "_law_pot":=by decide +kernel
theorem znm:LD "_law_signs":=by decide +kernel
theorem znn:LD "min":=by decide +kernel
theorem zno:LM "min":=by decide +kernel
theorem bt_min:bootBuiltins "min"=some (.builtin "min"):=by decide +kernel
def Wp (p:Addr) (H H':Hp):Prop:=∀ b o,b≠p→H b=some o→(∀ ps,o≠HO.tbl ps)→H' b=some o
theorem Wp.trans {p:Addr} {H H1 H2:Hp} (a:Wp p H H1) (b:Wp p H1 H2):Wp p H H2:=fun x o n e t=>b x o n (a x o n e t) t
theorem Wp.of {p:Addr} {H H':Hp} (s:Same H H'):Wp p H H':=fun x o _ e _=>s x o e
theorem Wp.ofX {p:Addr} {H H':Hp} (s:SameX p H H'):Wp p H H':=fun x o n e _=>s x o n e
theorem Wp.ofT {p T:Addr} {H H':Hp} {q:Str} (h:TblOk H T q) (s:SameX T H H'):Wp p H H':=fun x o _ e t=>s x o (fun z=>by obtain⟨ps,e2,_⟩:=h; rw [z,e2] at e; cases e; exact t ps rfl) e
theorem Wp.lt {p a:Addr} {H H':Hp} {xs:List V} (w:Wp p H H') (n:a≠p) (h:LT H a xs):LT H' a xs:=by
 rcases h with h | h
 ·exact .inl (w _ _ n h fun _ z=>by cases z)
 ·exact .inr (w _ _ n h fun _ z=>by cases z)
theorem Wp.signs {p C x:Addr} {H H':Hp} {ks:List Str} {ts:List TieR} {fs:List FunR} (w:Wp p H H') (hp:PotAt H p) (h:SignsAt C H x ks ts fs):SignsAt C H' x ks ts fs:=by
 obtain⟨_,_,_,e,_⟩:=hp
 refine h.keep (fun o ex=>?_) fun b xs eb=>w b _ (fun z=>by rw [z,e] at eb; cases eb) eb fun _ z=>by cases z
 obtain⟨dx,kt,tt,ft,tv,fv,h1,_⟩:=h
 rw [h1] at ex
 cases ex
 exact w x _ (fun z=>by rw [z,e] at h1; cases h1) h1 fun _ z=>by cases z
theorem Wp.pot {p T:Addr} {H H':Hp} {q:Str} (hp:PotAt H p) (h:TblOk H T q) (s:SameX T H H'):PotAt H' p:=by
 obtain⟨a,b,c,e,r⟩:=hp
 refine⟨a,b,c,s _ _ (fun z=>?_) e,r⟩
 obtain⟨ps,e2,_⟩:=h
 rw [z,e2] at e; cases e
theorem Wp.seq {p a:Addr} {K:PySem.W.Frag} {H H0 H':Hp} {xs:List V} (h:SqL K H a xs) (f:H p=none) (s:Same H H0) (w:Wp p H0 H'):SqL K H' a xs:=by
 rcases h with (h | ⟨o,h⟩) | h
 ·exact .inl (.inl (w _ _ (ne_of_none h f) (s _ _ h) fun _ z=>by cases z))
 ·exact .inl (.inr ⟨o,w _ _ (ne_of_none h f) (s _ _ h) fun _ z=>by cases z⟩)
 ·exact .inr h
theorem tbl_pot {H H':Hp} {T p:Addr} {q:Str} (h:TblOk H T q) (hp:PotAt H p) (s:SameX p H H'):TblOk H' T q:=by
 obtain⟨_,_,_,e,_⟩:=hp
 exact h.went e s
theorem NoSz.keepT {H H':Hp} {T:Addr} {q:Str} {ks:List Str} {v:V} (h:NoSz H ks v) (tb:TblOk H T q) (s:SameX T H H'):NoSz H' ks v:=by
 have k:∀ b o,H b=some o→(∀ ps,o≠HO.tbl ps)→H' b=some o:=fun b o e t=>s b o (fun z=>by obtain⟨ps,e2,_⟩:=tb; rw [z,e2] at e; cases e; exact t ps rfl) e
 have sh:∀ {v},Sh H v→Sh H' v∧rowOf H' v=rowOf H v:=fun {v} h=>by
  cases h with
  | non=>exact⟨.non,rfl⟩
  | bl b=>exact⟨.bl b,rfl⟩
  | int i=>exact⟨.int i,rfl⟩
  | str z=>exact⟨.str z,rfl⟩
  | @row a xs h=>
   have h':LT H' a xs:=by
    rcases h with h | h
    ·exact .inl (k _ _ h fun _ z=>by cases z)
    ·exact .inr (k _ _ h fun _ z=>by cases z)
   exact⟨.row h',by rw [row_of h,row_of h']⟩
  | dct h=>
   have h':=k _ _ h fun _ z=>by cases z
   exact⟨.dct h',by rw [row_dct h,row_dct h']⟩
 obtain⟨s1,r1⟩:=sh h.sh
 refine⟨s1,fun xs e y hy=>(sh (h.ins xs (r1▸e) y hy)).1,fun ⟨ns,e,o⟩=>h.bad ⟨ns,r1▸e,o⟩⟩
theorem NoSz.same {H H':Hp} {ks:List Str} {v:V} (h:NoSz H ks v) (s:Same H H'):NoSz H' ks v:=by
 have r1:=h.sh.rows s
 exact⟨h.sh.same s,fun xs e y hy=>(h.ins xs (r1▸e) y hy).same s,fun ⟨ns,e,o⟩=>h.bad ⟨ns,r1▸e,o⟩⟩
theorem alike_nums {H:Hp} {Q:VK} {a b:Addr} {v:V} {ms:List Nat} (ha:H a=some (.lst (ms.map iV))) (hb:H b=some (.lst (ms.map iV))) (q:Q v H):rAlikeI v (.ref a) (.ref b) H Q:=by
 have e:ms.map iV=(ms.map fun n:Nat=>(n:Int)).map V.int:=by rw [List.map_map]; rfl
 rw [e] at ha hb
 exact alike_ints ha hb q
theorem alike_tell {K:PySem.W.Frag} {H:Hp} {Q:VK} {a b:Addr} {v:V} {wh:Option Nat} (ha:H a=some (.tup (tellV wh))) (hb:H b=some (.tup (tellV wh))) (q:Q v H):rAlikeT K v (.ref a) (.ref b) H Q:=by
 cases wh with
 | none=>exact⟨a,b,_,_,[.str "size",.int 0],rfl,rfl,SqT.of ha,SqT.of hb,.cons (.str _) (.cons (.int _) .nil),.cons (.str _) (.cons (.int _) .nil),by decide +kernel,fun d hd=>by rcases List.mem_cons.mp hd with rfl | hd; exact Nat.zero_le _; rw [List.mem_singleton.mp hd]; exact Nat.zero_le _,q⟩
 | some m=>
  refine⟨a,b,_,_,[.str "many",.int m],rfl,rfl,SqT.of ha,SqT.of hb,.cons (.str _) (.cons (.int _) .nil),.cons (.str _) (.cons (.int _) .nil),?_,fun d hd=>by rcases List.mem_cons.mp hd with rfl | hd; exact Nat.zero_le _; rw [List.mem_singleton.mp hd]; exact Nat.zero_le _,q⟩
  show (PyData.canLay0 (.str "many")&&(PyData.canLay0 (.int m)&&true))=true
  rw [show PyData.canLay0 (.int m)=true from rfl]
  decide +kernel
theorem lt_sq {K:PySem.W.Frag} {H:Hp} {a:Addr} {xs:List V} (h:LT H a xs):SqL K H a xs∨SqT K H a xs:=by
 rcases h with z | z
 ·exact .inl (SqL.of z)
 ·exact .inr (SqT.of z)
section
variable {P:Program} {w:World} {K:PySem.W.Frag} {mg:Str→Option Value} {base:Heap}
abbrev s_law:Stmt:=top 52
theorem znp:FnScope ["_law_script","_law_k","_law_pot_here","_law_book_here","_law_signs_here","_law_size","_law_handed","_law_many","_law_odd"] ["_law_script"] (defScope s_law):=⟨rfl,rfl,rfl,by decide +kernel,rfl,by decide +kernel,by decide +kernel⟩
theorem znq:LN .globalImplicit s_law "_law_all_namings":=by decide +kernel
theorem znr:LN .globalImplicit s_law "_law_book":=by decide +kernel
theorem zns:LN .local s_law "_law_book_here":=by decide +kernel
theorem znt:LN .globalImplicit s_law "_law_cell":=by decide +kernel
theorem znu:LN .globalImplicit s_law "_law_draw":=by decide +kernel
theorem znv:LN .cell s_law "_law_handed":=by decide +kernel
theorem znw:LN .globalImplicit s_law "_law_is_told":=by decide +kernel
theorem znx:LN .local s_law "_law_k":=by decide +kernel
theorem zny:LN .local s_law "_law_many":=by decide +kernel
theorem znz:LN .globalImplicit s_law "_law_many_namings":=by decide +kernel
theorem zn0:LN .globalImplicit s_law "_law_no_size":=by decide +kernel
theorem zn1:LN .cell s_law "_law_odd":=by decide +kernel
theorem zn2:LN .globalImplicit s_law "_law_pot":=by decide +kernel
theorem zn3:LN .cell s_law "_law_pot_here":=by decide +kernel
theorem zn4:LN .local s_law "_law_script":=by decide +kernel
theorem zn5:LN .globalImplicit s_law "_law_signs":=by decide +kernel
theorem zn6:LN .cell s_law "_law_signs_here":=by decide +kernel
theorem zn7:LN .local s_law "_law_size":=by decide +kernel
theorem zn8:LN .globalImplicit s_law "len":=by decide +kernel
theorem zn9:LN .globalImplicit s_law "list":=by decide +kernel
theorem zoa:LN .globalImplicit s_law "max":=by decide +kernel
theorem zob:LN .globalImplicit s_law "min":=by decide +kernel
theorem zoc:LN .globalImplicit s_law "range":=by decide +kernel
theorem zod:LN .globalImplicit s_law "tuple":=by decide +kernel
abbrev QS16:Scope:={kind:=PySem.ScopeKind.function,names:=[ (PySem.Str.ofString ".0",PySem.NameKind.local),(PySem.Str.ofString "_law_kind",PySem.NameKind.local),(PySem.Str.ofString "_law_draw",PySem.NameKind.globalImplicit),(PySem.Str.ofString "_law_pot_here",PySem.NameKind.free)],isGenerator:=false,isCoroutine:=false,more:=[]:PySem.Scope}
theorem zoe:CompSc 1 ["_law_kind","_law_script","_law_k","_law_pot_here","_law_book_here","_law_signs_here","_law_size","_law_handed","_law_many","_law_odd"] ["_law_script","_law_k","_law_pot_here","_law_book_here","_law_signs_here","_law_size","_law_handed","_law_many","_law_odd"] (defScope s_law) QS16:=⟨rfl,by decide +kernel,by decide +kernel,by decide +kernel,by decide +kernel,rfl,by decide +kernel⟩
theorem zof:LC .globalImplicit QS16 "_law_draw":=by decide +kernel
theorem zog:LC .local QS16 "_law_kind":=by decide +kernel
theorem zoh:LC .free QS16 "_law_pot_here":=by decide +kernel
abbrev lamS (y:Str):Scope:={kind:=.function,names:=[(y,.free),(Str.ofString "_law_signs_here",.free),(Str.ofString "namings",.globalImplicit)],isGenerator:=false,isCoroutine:=false,more:=[]}
abbrev lamQ:Str:=(PyProof.Rows.envOfC "law" (defScope s_law) 0 0 .none).qual++Str.ofString "<lambda>"
abbrev lawN:List Str:=["_law_script","_law_k","_law_pot_here","_law_book_here","_law_signs_here","_law_size","_law_handed","_law_many","_law_odd"]
theorem lsc1:LamSc ["_law_signs_here","_law_handed"] [4,6] lawN (defScope s_law) (lamS (Str.ofString "_law_handed")):=by
 refine⟨rfl,rfl,rfl,by decide +kernel,by decide +kernel,rfl,fun i x h=>?_,by decide +kernel⟩
 match i,h with
 | 0,h=>cases h; exact⟨4,rfl,rfl⟩
 | 1,h=>cases h; exact⟨6,rfl,rfl⟩
theorem lsc2:LamSc ["_law_signs_here","_law_odd"] [4,8] lawN (defScope s_law) (lamS (Str.ofString "_law_odd")):=by
 refine⟨rfl,rfl,rfl,by decide +kernel,by decide +kernel,rfl,fun i x h=>?_,by decide +kernel⟩
 match i,h with
 | 0,h=>cases h; exact⟨4,rfl,rfl⟩
 | 1,h=>cases h; exact⟨8,rfl,rfl⟩
theorem lkR:LN .globalImplicit s_law "_law_refusal":=by decide +kernel
theorem ndR:LD "_law_refusal":=by decide +kernel
def spLaw (K:PySem.W.Frag) (T:Addr):Sp:=fun vs H Q _=>∃ (a:Addr) (ns:List Int),vs=[.ref a]∧SqL K H a (ns.map V.int)∧ns.length≤63∧H T=some (.tbl #[])∧∀ H',Q (.bl true) H'
theorem ok_law {C N M fL c T:Addr} {fdL:FuncData} (F:Fun K "law" "law" s_law fL fdL) (Z:Bl mg) (n_min:mg "min"=none) (hcd:fdL.code=.ref c) (hC:PySem.W.CodeHd base c T) (hB:base.BuiltinsAt mg T) (D_law_cell:Def P w K mg base "_law_cell" 1 ["_law_script","_law_k"] (spCell (K:=K))) (D_law_pot:Def P w K mg base "_law_pot" 1 ["_law_cell_here"] spPot)
  (D_law_draw:Def P w K mg base "_law_draw" 1 ["_law_pot_here","_law_many"] spDraw) (D_law_book:Def P w K mg base "_law_book" 3 ["_law_pot_here","_law_most_kinds","_law_most_signs"] spBook) (D_law_signs:Def P w K mg base "_law_signs" 7 ["_law_book_here"] (spMkS C)) (D_law_many_namings:Def P w K mg base "_law_many_namings" 1 ["_law_size"] spManyL)
  (D_law_all_namings:Def P w K mg base "_law_all_namings" 2 ["_law_size"] spLAll) (D_law_no_size:Def P w K mg base "_law_no_size" 2 ["_law_pot_here","_law_size"] spNoSz) (D_law_is_told:Def P w K mg base "_law_is_told" 5 ["_law_signs_here","_law_handed","_law_due"] (spTold C)) (D_namings:DefE P w K mg base "namings" 4 ["signs","size"] (spNam C N M))
  (D_law_refusal:∀ (f:Addr) (spL:Hp→VK→XK→Prop),DefZ P w K mg base "_law_refusal" 6 ["_law_call"] (fun outer s H=>LamOk P w K mg base 5 outer s H f spL) (spRef N M f spL)) :
  FnOk P w K mg base CX0 9 fL fdL ["_law_script"] (spLaw K T):=by
 have SC:=znp
 have LB1:∀ {qual:Str} {p1 p2 p3 p4:Pos} cl f cd A outer s H E,Room 4 (A.deeper (envX qual (lamS (Str.ofString "_law_handed")) s.heap.objs.size f cd cl))→PE ((cxLam P w K mg base ["_law_signs_here","_law_handed"] qual (lamS (Str.ofString "_law_handed")) cl f cd A outer s H E).exc E) (.Call (.Name "namings" p1) [.Name "_law_signs_here" p2,.Name "_law_handed" p3] [] p4) (tCall (spNam C N M) [] E (tCons (tVar 0) (tCons (tVar 1) tNil))):=lam_body D_namings (by decide +kernel) (by decide +kernel) (by decide +kernel) (by decide +kernel) (by decide +kernel)
 have LB2:∀ {qual:Str} {p1 p2 p3 p4:Pos} cl f cd A outer s H E,Room 4 (A.deeper (envX qual (lamS (Str.ofString "_law_odd")) s.heap.objs.size f cd cl))→PE ((cxLam P w K mg base ["_law_signs_here","_law_odd"] qual (lamS (Str.ofString "_law_odd")) cl f cd A outer s H E).exc E) (.Call (.Name "namings" p1) [.Name "_law_signs_here" p2,.Name "_law_odd" p3] [] p4) (tCall (spNam C N M) [] E (tCons (tVar 0) (tCons (tVar 1) tNil))):=lam_body D_namings (by decide +kernel) (by decide +kernel) (by decide +kernel) (by decide +kernel) (by decide +kernel)
 refine F.okC (k:=8) hcd znp (fun vs H Q E h=>?_) (fun A outer s H vs Q E hr h=>?_)
 ·obtain⟨a,ns,rfl,_⟩:=h
  rfl
 ·obtain⟨aS,ns,rfl,hS,hns,hT,q⟩:=h
  refine'⟨_,?derivation,?_⟩
  case derivation=>refine' pss_cons ?Aa ?Ba;(case Aa=>refine' ps_for PassesOwn.never rfl ?Ca ?Da ?Ea ?Fa;(case Ca=>refine' pi_range1 zoc Z.n_range ?Ga rfl;case Ga=>refine' pa_cons ?Ha pa_nil ?Ia;(case Ha=>refine' pe_callB (hn:=zb0) (hdb:=zbz) (call_max2 rfl) zoa Z.n_max bt_max ?Ja rfl rfl;case Ja=>refine' pa_cons ?Ka ?La ?Ma;(case Ka=>exact pe_int);(case La=>refine' pa_cons ?Na pa_nil ?Oa;(case Na=>refine' pe_callB (hn:=zno) (hdb:=znn) (call_min2 rfl) zob n_min bt_min ?Pa rfl rfl;case Pa=>refine' pa_cons ?Qa ?Ra ?Sa;(case Qa=>refine' pe_callB (hn:=zbw) (hdb:=zbv) call_len_seq zn8 Z.n_len bt_len ?Ta rfl rfl;case Ta=>refine' pa_cons (pq 0 (visL zn4) zbp zbq) pa_nil ?Ua;case Ua=>rfl);(case Ra=>refine' pa_cons ?Va pa_nil ?Wa;(case Va=>exact pe_int);case Wa=>rfl);case Sa=>rfl);case Oa=>rfl);case Ma=>rfl);case Ia=>rfl);(case Da=>refine' pg_name (i:=1) (x:=Str.ofString "_law_k") SC.nd rfl (Or.inl znx) (.inl rfl));(case Ea=>refine' pss_cons ?Xa ?Ya;(case Xa=>refine' ps_set (i:=2) (x:=Str.ofString "_law_pot_here") ?Za ?Ab ?Bb ?Cb ?Db ?Eb;(case Za=>exact SC.nd);(case Ab=>exact rfl);(case Bb=>exact(Or.inr zn3));(case Cb=>refine' pe_def (hdb:=znl) D_law_pot (hr.mono (by decide)) zn2 ?Fb rfl rfl;case Fb=>refine' pa_cons ?Gb pa_nil ?Hb;(case Gb=>refine' pe_op op_add ?Ib (pq 1 (visL znx) zbf zbg);case Ib=>refine' pe_def (hdb:=znh) D_law_cell (hr.mono (by decide)) znt ?Jb rfl rfl;case Jb=>refine' pa_cons (pq 0 (visL zn4) zbp zbq) ?Kb ?Lb;(case Kb=>refine' pa_cons (pq 1 (visL znx) zbf zbg) pa_nil ?Mb;case Mb=>rfl);case Lb=>rfl);case Hb=>rfl);(case Db=>rfl);case Eb=>exact .inl rfl);case Ya=>refine' pss_cons ?Nb ?Ob;(case Nb=>refine' ps_set (i:=3) (x:=Str.ofString "_law_book_here") ?Pb ?Qb ?Rb ?Sb ?Tb ?Ub;(case Pb=>exact SC.nd);(case Qb=>exact rfl);(case Rb=>exact(Or.inl zns));(case Sb=>refine' pe_def (hdb:=zng) D_law_book (hr.mono (by decide)) znr ?Vb rfl rfl;case Vb=>refine' pa_cons (pq 2 (visC zn3) zbn zbo) ?Wb ?Xb;(case Wb=>refine' pa_cons ?Yb ?Zb ?Ac;(case Yb=>exact pe_int);(case Zb=>refine' pa_cons ?Bc pa_nil ?Cc;(case Bc=>exact pe_int);case Cc=>rfl);case Ac=>rfl);case Xb=>rfl);(case Tb=>rfl);case Ub=>exact .inl rfl);case Ob=>refine' pss_cons ?Dc ?Ec;(case Dc=>refine' ps_set (i:=4) (x:=Str.ofString "_law_signs_here") ?Fc ?Gc ?Hc ?Ic ?Jc ?Kc;(case Fc=>exact SC.nd);(case Gc=>exact rfl);(case Hc=>exact(Or.inr zn6));(case Ic=>refine' pe_def (hdb:=znm) D_law_signs (hr.mono (by decide)) zn5 ?Lc rfl rfl;case Lc=>refine' pa_cons (pq 3 (visL zns) zj4 zj5) pa_nil ?Mc;case Mc=>rfl);(case Jc=>rfl);case Kc=>exact .inl rfl);case Ec=>refine' pss_cons ?Nc ?Oc;(case Nc=>refine' ps_setComp (i:=5) (x:=Str.ofString "_law_size") SC.nd ?Pc (Or.inl zn7) ?Qc noxe ?Rc zoe.at ?Sc ?Tc ?Uc ?Vc ?Wc;(case Pc=>exact rfl);(case Qc=>exact rfl);(case Rc=>exact rfl);(case Sc=>refine' pi_list ?Xc;case Xc=>refine' pe_ix ix_tup (pq 3 (visL zns) zj4 zj5) ?Yc ?Zc;(case Yc=>exact pe_int);case Zc=>intro _ _;exact rfl);(case Tc=>intro _ _ _ _ _;refine' pg_name (i:=0) zoe.nd rfl (locO zog) (.inr (lookup_relabel_local zog)));(case Uc=>intro _ _ _ _ _;refine' pe_op op_add ?Ad ?Bd;(case Ad=>exact pe_int);case Bd=>refine' pe_def (hdb:=zbe) D_law_draw (hr.mono (by decide)) (glO zof) ?Cd rfl rfl;case Cd=>refine' pa_cons (pq 3 (visF zoh) zbn zbo) ?Dd ?Ed;(case Dd=>refine' pa_cons ?Fd pa_nil ?Gd;(case Fd=>exact pe_int);case Gd=>rfl);case Ed=>rfl);(case Vc=>intro _; rfl);case Wc=>exact .inl rfl);case Oc=>refine' pss_cons ?Hd ?Id;(case Hd=>refine' ps_set (i:=6) (x:=Str.ofString "_law_handed") ?Jd ?Kd ?Ld ?Md ?Nd ?Od;(case Jd=>exact SC.nd);(case Kd=>exact rfl);(case Ld=>exact(Or.inr znv));(case Md=>refine' pe_ix ix_list ?Pd ?Qd ?Rd;(case Pd=>refine' pe_lst ?Sd;case Sd=>refine' pa_cons ?Td ?Ud ?Vd;(case Td=>refine' pe_callTy (hn:=zby) (hdb:=zbx) ?Wd zn9 Z.n_list bt_list ?Xd rfl rfl;(case Wd=>exact call_list_of);case Xd=>refine' pa_cons (pq 5 (visL zn7) zkf zkg) pa_nil ?Yd;case Yd=>rfl);(case Ud=>refine' pa_cons ?Zd pa_nil ?Ae;(case Zd=>refine' pe_callTy (hn:=zeu) (hdb:=zet) ?Be zod Z.n_tuple bt_tuple ?Ce rfl rfl;(case Be=>exact call_tuple_of);case Ce=>refine' pa_cons (pq 5 (visL zn7) zkf zkg) pa_nil ?De;case De=>rfl);case Ae=>rfl);case Vd=>rfl);(case Qd=>refine' pe_def (hdb:=zbe) D_law_draw (hr.mono (by decide)) znu ?Ee rfl rfl;case Ee=>refine' pa_cons (pq 2 (visC zn3) zbn zbo) ?Fe ?Ge;(case Fe=>refine' pa_cons ?He pa_nil ?Ie;(case He=>exact pe_int);case Ie=>rfl);case Ge=>rfl);case Rd=>intro _ _;exact rfl);(case Nd=>rfl);case Od=>exact .inl rfl);case Id=>refine' pss_cons ?Je ?Ke;(case Je=>refine' ps_set (i:=7) (x:=Str.ofString "_law_many") ?Le ?Me ?Ne ?Oe ?Pe ?Qe;(case Le=>exact SC.nd);(case Me=>exact rfl);(case Ne=>exact(Or.inl zny));(case Oe=>refine' pe_def (hdb:=znj) D_law_many_namings (hr.mono (by decide)) znz ?Re rfl rfl;case Re=>refine' pa_cons (pq 5 (visL zn7) zkf zkg) pa_nil ?Se;case Se=>rfl);(case Pe=>rfl);case Qe=>exact .inl rfl);case Ke=>refine' pss_cons ?Te ?Ue;(case Te=>refine' ps_if ?Ve ?We ?Xe;(case Ve=>refine' pt_cmpR op_gt (pq 7 (visL zny) zbj zbk) ?Ye (nomark _);case Ye=>exact pe_int);(case We=>refine' pss_one ?Ze;case Ze=>refine' ps_if ?Af ?Bf pss_nil;(case Af=>refine' pt_cmpR (op_neT hr.units) ?Cf ?Df (nomark _);(case Cf=>refine' pe_callL (kL:=4) (sp:=spRef N M) (N:=[Str.ofString "_law_signs_here",Str.ofString "_law_handed"]) (js:=[4,6]) (te:=fun E=>tCall (spNam C N M) [] E (tCons (tVar 0) (tCons (tVar 1) tNil))) D_law_refusal (hr.mono (by decide)) lkR rfl hC hB lsc1 rfl ?Ef LB1 ndR rfl;case Ef=>intro _;exact rfl);case Df=>refine' pe_tup ?Ff;case Ff=>refine' pa_cons ?Gf ?Hf ?If;(case Gf=>exact pe_str);(case Hf=>refine' pa_cons (pq 7 (visL zny) zbj zbk) pa_nil ?Jf;case Jf=>rfl);case If=>rfl);case Bf=>refine' pss_one ?Kf;case Kf=>refine' ps_ret ?Lf;case Lf=>exact pe_bl);case Xe=>refine' pss_one ?Mf;case Mf=>refine' ps_if ?Nf ?Of pss_nil;(case Nf=>refine' pt_not ?Pf;case Pf=>refine' pt_val ?Qf ?Rf;(case Qf=>refine' pe_def (hdb:=zni) D_law_is_told (hr.mono (by decide)) znw ?Sf rfl rfl;case Sf=>refine' pa_cons (pq 4 (visC zn6) zmw zmx) ?Tf ?Uf;(case Tf=>refine' pa_cons (pq 6 (visC znv) zmu zmv) ?Vf ?Wf;(case Vf=>refine' pa_cons ?Xf pa_nil ?Yf;(case Xf=>refine' pe_def (hdb:=znf) D_law_all_namings (hr.mono (by decide)) znq ?Zf rfl rfl;case Zf=>refine' pa_cons (pq 5 (visL zn7) zkf zkg) pa_nil ?Ag;case Ag=>rfl);case Yf=>rfl);case Wf=>rfl);case Uf=>rfl);case Rf=>intro _; rfl);case Of=>refine' pss_one ?Bg;case Bg=>refine' ps_ret ?Cg;case Cg=>exact pe_bl);case Ue=>refine' pss_cons ?Dg ?Eg;(case Dg=>refine' ps_set (i:=8) (x:=Str.ofString "_law_odd") ?Fg ?Gg ?Hg ?Ig ?Jg ?Kg;(case Fg=>exact SC.nd);(case Gg=>exact rfl);(case Hg=>exact(Or.inr zn1));(case Ig=>refine' pe_def (hdb:=znk) D_law_no_size (hr.mono (by decide)) zn0 ?Lg rfl rfl;case Lg=>refine' pa_cons (pq 2 (visC zn3) zbn zbo) ?Mg ?Ng;(case Mg=>refine' pa_cons (pq 5 (visL zn7) zkf zkg) pa_nil ?Og;case Og=>rfl);case Ng=>rfl);(case Jg=>rfl);case Kg=>exact .inl rfl);case Eg=>refine' pss_one ?Pg;case Pg=>refine' ps_if ?Qg ?Rg pss_nil;(case Qg=>refine' PW.pt ?Sg;case Sg=>refine' pw_or ?Tg ?Ug;(case Tg=>refine' pt_cmpR (op_neT hr.units) ?Vg ?Wg (nomark _);(case Vg=>refine' pe_callL (kL:=4) (sp:=spRef N M) (N:=[Str.ofString "_law_signs_here",Str.ofString "_law_odd"]) (js:=[4,8]) (te:=fun E=>tCall (spNam C N M) [] E (tCons (tVar 0) (tCons (tVar 1) tNil))) D_law_refusal (hr.mono (by decide)) lkR rfl hC hB lsc2 rfl ?Xg LB2 ndR rfl;case Xg=>intro _;exact rfl);case Wg=>refine' pe_tup ?Yg;case Yg=>refine' pa_cons ?Zg ?Ah ?Bh;(case Zg=>exact pe_str);(case Ah=>refine' pa_cons ?Ch pa_nil ?Dh;(case Ch=>exact pe_int);case Dh=>rfl);case Bh=>rfl);case Ug=>refine' pw_or1 ?Eh;case Eh=>refine' pt_cmpR (op_neD hr.units) ?Fh (pq 5 (visL zn7) zkf zkg) (nomark _);case Fh=>refine' pe_callTy (hn:=zby) (hdb:=zbx) ?Gh zn9 Z.n_list bt_list ?Hh rfl rfl;(case Gh=>exact call_list_of);case Hh=>refine' pa_cons (pq 6 (visC znv) zmu zmv) pa_nil ?Ih;case Ih=>rfl);case Rg=>refine' pss_one ?Jh;case Jh=>refine' ps_ret ?Kh;case Kh=>exact pe_bl);case Fa=>intro _; rfl);case Ba=>refine' pss_one ?Lh;case Lh=>refine' ps_ret ?Mh;case Mh=>exact pe_bl
  have tb0:∀ q,TblOk H T q:=fun q=>⟨#[],hT,trivial,fun p v z=>by cases z⟩
  refine⟨_,rfl,aS,_,rfl,.inl hS,_,_,rfl,_,_,rfl,_,rfl,?_,?_,for_range (fun i σ H2=>∃ w1 w2 w3 w4 w5 w6 w7 w8,σ=[some (.ref aS),w1,w2,w3,w4,w5,w6,w7,w8]∧TblOk H2 T lamQ∧SqL K H2 aS (ns.map V.int)) ⟨_,_,_,_,_,_,_,_,rfl,tb0 _,hS⟩ ?_ ?_⟩
  ·rw [List.length_map]; split <;> (try split) <;> omega
  ·rw [List.length_map]; split <;> (try split) <;> omega
  rotate_left
  ·rintro σ H2 ⟨w1,w2,w3,w4,w5,w6,w7,w8,rfl,_,_⟩
   exact q H2
  rintro i σ H2 hi ⟨w1,w2,w3,w4,w5,w6,w7,w8,rfl,tb2,hS2⟩
  rw [Int.zero_add]
  refine⟨_,rfl,_,rfl,aS,ns,i,rfl,hS2,fun cn=>⟨_,rfl,_,_,rfl,rfl,_,rfl,fun p H3 hp pot3 s3=>?_⟩⟩
  have tb3:=tb2.same s3
  have np3:∀ a,H3 a=none→a≠p:=fun a e=>by rintro rfl; obtain⟨o,e2⟩:=pot3.some; rw [e] at e2; cases e2
  refine⟨_,rfl,p,4,3,rfl,pot3,by decide,by decide,by decide,fun bv H4 ks ts fs rb ok k4 _ W4=>?_⟩
  have tb4:=tbl_pot tb3 pot3 W4.same
  have pot4:=W4.pot
  have w4:Wp p H3 H4:=Wp.ofX W4.same
  have rb4:RdV (fun a=>a≠p) H4 bv (bookL ks ts fs):=rb.mono (fun a z=>np3 a z) fun _ _ _ e=>e
  obtain⟨b,_,rfl,_,_,_⟩:=id (RdV.tuple_inv rb4)
  obtain⟨kA,tA,fA,tv,fv,b1,nb,nk,k1,_⟩:=bk_open rb4
  have np4:∀ {G:Hp} {a:Addr},PotAt G p→G a=none→a≠p:=fun hp e z=>by obtain⟨o,e2⟩:=hp.some; rw [← z,e] at e2; cases e2
  refine⟨_,rfl,_,b,ks,ts,fs,rfl,rb4,ok,fun x H5 hx g5 s5=>?_⟩
  have tb5:=tb4.same s5
  have pot5:=pot4.keep s5
  have w5:Wp p H3 H5:=w4.trans (.of s5)
  have b5:=s5 _ _ b1
  have k5:=s5 _ _ k1
  have kpos:1≤ks.length:=ok.k1
  refine⟨_,rfl,b,_,_,_,rfl,rfl,SqT.of b5,rfl,kA,rfl,⟨_,SqL.of k5⟩,fun cl C' ex s0 Hc=>?_⟩
  refine comp_it1 (ks.map V.str).length (fun j ys H6=>∃ ms:List Nat,ys=ms.map iV∧(∀ n∈ms,1≤n∧n≤4)∧ms.length=j∧PotAt H6 p∧SameX p H5 H6∧TblOk H6 T lamQ) (fun j y=>(ks.map V.str)[j]? = some y) ⟨[],rfl,fun _ z=>(nomatch z),rfl,pot5,fun _ _ _ e=>e,tb5⟩ (by rw [List.length_map]; exact Nat.le_trans k4 (by decide))
   (fun j ys H6 hj _ ⟨_,_,_,_,_,s6,_⟩=>go_list (SqL.of (s6 _ _ nk k5)) hj) (fun ys H6 _ ⟨_,_,_,_,_,s6,_⟩=>stop_list (SqL.of (s6 _ _ nk k5))) ?_ ?_
  ·rintro j y ys H6 hj hy hyl ⟨ms,rfl,m4,ml,pot6,s6,tb6⟩
   refine⟨_,rfl,p,4,rfl,pot6,by decide,by decide,fun r H7 r0 r4 pot7 s7=>⟨_,_,rfl,rfl,ms++[(1+r).toNat],?_,fun n hn=>?_,by rw [List.length_append,ml]; rfl,pot7,fun b o n e=>s7 b o n (s6 b o n e),tbl_pot tb6 pot6 s7⟩⟩
   ·rw [List.map_append]
    show _=_++[V.int ((1+r).toNat:Int)]
    rw [Int.toNat_of_nonneg (by omega)]
   ·rcases List.mem_append.mp hn with z | z
    ·exact m4 n z
    ·rw [List.mem_singleton.mp z]; omega
  rintro ys H6 hyl ⟨ms,rfl,m4,ml,pot6,s6,tb6⟩ D hD
  rw [List.length_map] at ml
  have nD:=np4 pot6 hD
  obtain⟨s7,eD⟩:=new_at hD (.lst (ms.map iV))
  have g6:=Wp.signs (.ofX s6) pot5 g5
  have g7:=Wp.signs (.of s7) pot6 g6
  have tb7:=tb6.same s7
  have pot7:=pot6.keep s7
  have w7:Wp p H3 _:=(w5.trans (.ofX s6)).trans (.of s7)
  generalize (upd H6 D (.lst (ms.map iV)))=H7 at *
  have sok:SizeOk ks ms:=⟨ml,fun n hn=>(m4 n hn).1,fun n hn=>(m4 n hn).2⟩
  refine⟨_,rfl,D,_,rfl,.inl (SqL.of eD),fun h1 fh1=>?_⟩
  obtain⟨u1,e1⟩:=new_at fh1 (.lst (ms.map iV))
  refine⟨_,rfl,D,_,rfl,.inl ⟨SqL.of (u1 _ _ eD),fun h2 fh2=>?_⟩⟩
  obtain⟨u2,e2⟩:=new_at fh2 (.tup (ms.map iV))
  have n1:=np4 pot7 fh1
  have n2:=np4 (pot7.keep u1) fh2
  refine⟨by show 2≤sizeLine; decide,fun L hL=>?_⟩
  obtain⟨u3,eL⟩:=new_at hL (.lst [V.ref h1,V.ref h2])
  have u13:=(u1.trans u2).trans u3
  have nL:=np4 (pot7.keep (u1.trans u2)) hL
  refine⟨_,rfl,p,2,rfl,pot7.keep u13,by decide,by decide,fun r H8 r0 r2 pot8 s8=>?_⟩
  obtain⟨hA,hat,eh,nh⟩:∃ hA,atI [V.ref h1,V.ref h2] r=some (.ref hA)∧LT H8 hA (ms.map iV)∧hA≠p:=by
   have : r=0∨r=1:=by omega
   rcases this with rfl | rfl
   ·exact⟨h1,rfl,.inl (s8 _ _ n1 ((u2.trans u3) _ _ e1)),n1⟩
   ·exact⟨h2,rfl,.inr (s8 _ _ n2 (u3 _ _ e2)),n2⟩
  refine⟨L,_,r,_,rfl,rfl,SqL.of (s8 _ _ nL eL),hat,?_⟩
  have w78:Wp p H7 H8:=(Wp.of u13).trans (.ofX s8)
  have g8:=w78.signs pot7 g7
  have tb8:=tbl_pot (tb7.same u13) (pot7.keep u13) s8
  have eD8:=w78 _ _ nD eD fun _ z=>by cases z
  refine⟨_,rfl,D,ms,rfl,eD8,sok.four,by omega,fun H9 s9=>?_⟩
  have g9:=g8.same s9
  have tb9:=tb8.same s9
  have eD9:=s9 _ _ eD8
  have eh9:LT H9 hA (ms.map iV):=eh.same s9
  have pot9:=pot8.keep s9
  have w9:Wp p H3 H9:=(w7.trans w78).trans (.of s9)
  clear g8 g7 g6 g5 tb8 tb7 tb6 tb5 tb4 tb3 tb2 eD8 eh pot8 pot7 pot6 pot5 pot4 w78 w7 w5 w4 s8 s9 s7 s6 s5
  have mk4:ks.length≤4:=ok.k4
  dsimp only [gName]
  refine seq_mid (fun σ' H'=>σ'=[some (.ref aS),some (.int i),some (.ref p),some (.ref b),some (.ref x),some (.ref D),some (.ref hA),some (.int (prodN ms:Nat)),w8]∧Wp p H9 H'∧TblOk H' T lamQ∧PotAt H' p) ?_ (fun go=>?_)
  rotate_left
  ·
   refine⟨_,rfl,_,_,rfl,rfl,_,rfl,?_⟩
   by_cases hm:576<prodN ms
   ·refine ifT (decide_eq_true (by omega)) ⟨tb9,fun j hj=>?_,fun f H10 hf sx tb10=>⟨some (prodN ms),rfl,fun H11 Q1 s11=>⟨s11,?_⟩,fun pt H12 s12 ept=>?_⟩⟩
    ·rcases List.mem_cons.mp hj with rfl | hj
     ·exact⟨_,rfl⟩
     ·rw [List.mem_singleton.mp hj]; exact⟨_,rfl⟩
    ·have wx:Wp p H9 H10:=Wp.ofT tb9 sx
     have g11:=(wx.signs pot9 g9).same s11
     have e11:LT H11 hA (ms.map iV):=(wx.lt nh eh9).same s11
     have r11:=row_of e11
     refine⟨_,rfl,_,rfl,?_⟩
     dsimp only [tNil]
     refine⟨x,.ref hA,ks,ts,fs,rfl,g11,mk4,.row e11,fun xs e=>by rw [r11] at e; cases e; exact sh_nums,fun ns' e o z=>?_,fun ns' e o z dx H13 s13 ed=>?_,fun z=>absurd ⟨ms,r11,sok⟩ z⟩
     ·rw [r11] at e
      cases iV_inj (Option.some.inj e)
      omega
     ·rw [r11] at e
      cases iV_inj (Option.some.inj e)
      exact⟨s11.trans s13,.inr ⟨_,dx,rfl,rfl,rfl,ed⟩⟩
    ·refine⟨_,rfl,by show 2≤sizeLine; decide,fun t ht=>?_⟩
     obtain⟨st,et⟩:=new_at ht (.tup [.str "many",.int (prodN ms:Nat)])
     refine alike_tell (wh:=some (prodN ms)) (st _ _ ept) et ⟨false,rfl,ifF (by decide) (go _ _ ⟨rfl,(Wp.ofT tb9 sx).trans ((Wp.of s12).trans (.of st)),(tb10.same s12).same st,((Wp.pot pot9 tb9 sx).keep s12).keep st⟩)⟩
   ·refine ifF (by simp; omega) ?_
    refine⟨_,rfl,_,rfl,_,rfl,D,ms,rfl,eD9,sok.four,by omega,by omega,fun l tl H10 el nl10 s10=>?_⟩
    have e10:LT H10 hA (ms.map iV):=eh9.same s10
    refine⟨x,.ref hA,l,ks,ts,fs,ms,tl,rfl,g9.same s10,mk4,.row e10,row_of e10,sok,by omega,by omega,el,nl10,fun H11 s11=>⟨true,rfl,ifF (by decide) (go _ _ ⟨rfl,(Wp.of s10).trans (.of s11),(tb9.same s10).same s11,(pot9.keep s10).keep s11⟩)⟩⟩
  rintro σ' H10 ⟨rfl,w10,tb10,pot10⟩
  have g10:=w10.signs pot9 g9
  have eD10:=w10 _ _ nD eD9 fun _ z=>by cases z
  have eh10:=w10.lt nh eh9
  refine⟨_,rfl,_,rfl,p,D,ks,ms,rfl,pot10,nD,eD10,sok,by omega,by omega,fun v H11 pot11 s11 nz=>?_⟩
  have w11:Wp p H10 H11:=.ofX s11
  have tb11:=tbl_pot tb10 pot10 s11
  have g11:=w11.signs pot10 g10
  have eD11:=w11 _ _ nD eD10 fun _ z=>by cases z
  have eh11:=w11.lt nh eh10
  refine⟨tb11,fun j hj=>?_,fun f H12 hf sx tb12=>⟨none,rfl,fun H13 Q1 s13=>⟨s13,?_⟩,fun pt H14 s14 ept=>?_⟩⟩
  ·rcases List.mem_cons.mp hj with rfl | hj
   ·exact⟨_,rfl⟩
   ·rw [List.mem_singleton.mp hj]; exact⟨_,rfl⟩
  ·have wx:Wp p H11 H12:=Wp.ofT tb11 sx
   have g13:=(wx.signs pot11 g11).same s13
   have nz13:=(nz.keepT tb11 sx).same s13
   refine⟨_,rfl,_,rfl,?_⟩
   dsimp only [tNil]
   exact⟨x,v,ks,ts,fs,rfl,g13,mk4,nz13.sh,nz13.ins,fun ns' e o _=>absurd ⟨ns',e,o⟩ nz13.bad,fun ns' e o _=>absurd ⟨ns',e,o⟩ nz13.bad,fun _ H15 s15=>⟨s13.trans s15,.inl ⟨rfl,rfl⟩⟩⟩
  ·refine⟨by show 2≤sizeLine; decide,fun t ht=>?_⟩
   obtain⟨st,et⟩:=new_at ht (.tup [.str "size",.int 0])
   have w15:=(Wp.ofT (p:=p) tb11 sx).trans ((Wp.of s14).trans (.of st))
   refine alike_tell (wh:=none) (st _ _ ept) et ⟨false,rfl,ifF (by decide) ?_⟩
   have eh15:=w15.lt nh eh11
   have eD15:=w15 _ _ nD eD11 fun _ z=>by cases z
   refine⟨_,rfl,hA,ms.map iV,rfl,lt_sq eh15,fun l fl=>?_⟩
   obtain⟨sl,el⟩:=new_at fl (.lst (ms.map iV))
   refine⟨_,rfl,alike_nums el (sl _ _ eD15) ⟨false,rfl,ifF (by decide) ?_⟩⟩
   exact⟨_,_,_,_,_,_,_,_,rfl,((tb12.same s14).same st).same sl,Wp.seq hS2 hp s3 ((w9.trans w10).trans (w11.trans (w15.trans (.of sl))))⟩
end
end Few
namespace FewE
open PySem L2 Few
theorem exc_cls {K:PySem.W.Frag} {mg:Str→Option Value} {x:Str} {C:Addr} (hb:mg x=some (.ref C)) (q:PySem.W.excIn K C mroVE "ValueError.__new__"=true):ExcCls K mg x C:=by
 intro h X
 refine⟨hb,?_⟩
 unfold PySem.W.excIn at q
 split at q
 ·rename_i dd cd sl ho
  split at q
  ·rename_i C' bm k0 k1 k2 k3 n k5 hm hs
   simp only [Bool.and_eq_true,beq_iff_eq,Bool.not_eq_true'] at q
   obtain⟨⟨⟨⟨⟨rfl,rfl⟩,hdel⟩,ht⟩,hok⟩,hni⟩:=q
   obtain⟨nm,bs,mro,ns,qn,hd,sn,sub,ab,col,del⟩:=cd
   dsimp only at hm hdel hok hni
   subst hm hdel
   have hsl:sl=#[k0,k1,k2,k3,some (.builtin "ValueError.__new__"),k5]:=by
    obtain⟨l⟩:=sl
    simp only at hs
    rw [hs]
   subst hsl
   exact⟨bm,ns,nm,qn,bs,hd,sn,sub,ab,col,dd,k0,k1,k2,k3,k5,_,X _ _ ho,.of_isNs (PySem.W.isNs_of_in X hok),PySem.W.nsMap_none_of_in X hok hni,PySem.W.tail_of_in X ht⟩
  ·cases q
 ·cases q
theorem ns_got {K:PySem.W.Frag} {h:Heap} {N:Addr} {m:Str→Option Value} {x:Str} {v:Value} (X:K.In h) (G:h.Ns N m) (q:PySem.W.nsIn K N x=some (some v)):m x=some v:=by
 obtain⟨ob,ents,k,at1,dat,_,rest⟩:=G
 unfold PySem.W.nsIn at q
 split at q
 ·rename_i c d es' n' sl z
  have y:=X _ _ z
  rw [at1] at y
  cases y
  cases dat
  split at q
  ·rename_i en he
   cases q
   rw [← rest]
   unfold nsFind findBy
   rw [← Array.find?_toList,he]
   rfl
  ·split at q <;> cases q
 ·cases q
theorem exc_clsI {K:PySem.W.Frag} {mg:Str→Option Value} {x:Str} {C fI xns:Addr} {oI:Obj} {xdd:Option Addr} {xnm xqn:Str} {xbs xbm xsub:List Value} {xhd xab:Bool} {xsn:List Str} {xcol:Option Bool} {k0 k1 k2 k3 k5:Option Value} (hb:mg x=some (.ref C))
  (ho:K.lookup C=some ⟨.type "type",xdd,.cls ⟨xnm,xbs,.ref C::xbm,xns,xqn,xhd,xsn,xsub,xab,xcol,false⟩,#[k0,k1,k2,k3,some (.builtin "ValueError.__new__"),k5]⟩) (ht:PySem.W.tailIn K mroVE xbm=true) (hok:PySem.W.nsOkIn K xns=true) (hi:PySem.W.nsIn K xns "__init__"=some (some (.ref fI)))
  (mb:PySem.W.mroIn K C (.type "BaseException")=some true) (lI:K.lookup fI=some oI) (cI:oI.cls=.type "function"):ExcClsI K mg x C fI:=
 ⟨hb,⟨_,_,_,ho⟩,mb,⟨oI,lI,cI⟩,fun h X=>⟨xbm,xns,xnm,xqn,xbs,xhd,xsn,xsub,xab,xcol,xdd,k0,k1,k2,k3,k5,_,X _ _ ho,.of_isNs (PySem.W.isNs_of_in X hok),ns_got X (.of_isNs (PySem.W.isNs_of_in X hok)) hi,PySem.W.tail_of_in X ht⟩⟩
end FewE
set_option maxHeartbeats 4000000
namespace FewE
open PySem L2 Few
theorem funAt_mk {K:PySem.W.Frag} {h:Heap} {mg:Str→Option Value} {x:Str} {st:Stmt} {ps:List Str} {f:Addr} {oc kV dc pm cd ct:Value} {od an:Option Addr} {sl:Array (Option Value)} (X:K.In h) (G:h.Ns mainGlobals mg)
  (a:PySem.W.nsIn K mainGlobals x=some (some (.ref f))) (l:K.lookup f=some ⟨oc,od,.func (PySem.W.fnOf x x (defArgs st) (defBody st) (defScope st) .none kV dc pm an cd ct),sl⟩) (c:PySem.W.codeIn K cd x=true) (k:PySem.W.keepIn K (.ref f)=true)
  (b:∀ (kV doc pm:Value) (an:Option Addr) (cdv ct:Value) (us:List Value),us.length=ps.length→bindArgs (PySem.W.fnOf x x (defArgs st) (defBody st) (defScope st) .none kV doc pm an cdv ct) ⟨us,[]⟩=pure (ps.zip us)):FunAt K mg x st ps:=
 ⟨f,_,fun_mk l c k,PySem.W.mg_of X G a,(fun_mk (st:=st) l c k).binds b⟩
def MethAt (K:PySem.W.Frag) (C:Addr) (x q:Str) (st:Stmt) (ps:List Str):Prop:=∃ (f:Addr) (fd:FuncData),Fun K x q st f fd∧Binds K fd ps []∧PySem.W.findIn K (.ref C) x=some (some (.ref f))∧PySem.W.isFn K (.ref f)=true∧PySem.W.keepIn K (.ref f)=true
theorem methAt_mk {K:PySem.W.Frag} {x q:Str} {st:Stmt} {ps:List Str} {C f:Addr} {oc kV dc pm cd ct:Value} {od an:Option Addr} {sl:Array (Option Value)}
  (a:PySem.W.findIn K (.ref C) x=some (some (.ref f))) (i:PySem.W.isFn K (.ref f)=true) (l:K.lookup f=some ⟨oc,od,.func (PySem.W.fnOf x q (defArgs st) (defBody st) (defScope st) .none kV dc pm an cd ct),sl⟩) (c:PySem.W.codeIn K cd q=true) (k:PySem.W.keepIn K (.ref f)=true)
  (b:∀ (kV doc pm:Value) (an:Option Addr) (cdv ct:Value) (us:List Value),us.length=ps.length→bindArgs (PySem.W.fnOf x q (defArgs st) (defBody st) (defScope st) .none kV doc pm an cdv ct) ⟨us,[]⟩=pure (ps.zip us)):MethAt K C x q st ps:=
 ⟨f,_,fun_mk l c k,(fun_mk (st:=st) l c k).binds b,a,i,k⟩
theorem lu1 {α:Type} {l:List α} (h:l.length=1):∃ a,l=[a]:=by
 match l,h with
 | [a],_=>exact⟨a,rfl⟩
theorem lu2 {α:Type} {l:List α} (h:l.length=2):∃ a b,l=[a,b]:=by
 match l,h with
 | [a,b],_=>exact⟨a,b,rfl⟩
theorem lu3 {α:Type} {l:List α} (h:l.length=3):∃ a b c,l=[a,b,c]:=by
 match l,h with
 | [a,b,c],_=>exact⟨a,b,c,rfl⟩
theorem lu4 {α:Type} {l:List α} (h:l.length=4):∃ a b c d,l=[a,b,c,d]:=by
 match l,h with
 | [a,b,c,d],_=>exact⟨a,b,c,d,rfl⟩
theorem tab_mk {K:PySem.W.Frag} {x:Str} {f c P:Addr} {oc cc:Value} {od cdd:Option Addr} {fd:FuncData} {sl csl:Array (Option Value)} {vs:Array Value} (a:PySem.W.nsIn K mainGlobals x=some (some (.ref f))) (l:K.lookup f=some ⟨oc,od,.func fd,sl⟩) (hc:fd.code=.ref c) (lc:K.lookup c=some ⟨cc,cdd,.fields vs,csl⟩) (h:vs[11]? = some (.ref P)):PySem.W.tabIn K x=some (c,P):=by
 unfold PySem.W.tabIn
 simp only [a,l,hc,lc,h]
theorem all_mk {l:PySem.W.OpenLaw} {w:World} {K:PySem.W.Frag} {h:Heap} {mg:Str→Option Value} {fa C N M nn fe x1 x2 x3 x4 x5 x6 wa cc TT fM xns:Addr} {xdd fdd:Option Addr} {xnm xqn:Str} {xbs xbm xsub:List Value} {xhd xab:Bool} {xsn:List Str} {xcol:Option Bool} {xk0 xk1 xk2 xk3 xk5:Option Value} {fcd cdN cdM:ClassData} {fsl:Array (Option Value)} {f27:Addr} {oc27 kV27 dc27 pm27 ct27:Value} {od27 an27:Option Addr} {sl27:Array (Option Value)} {kVM dcM pmM cdMv ctM:Value} {odM anM:Option Addr} {slM:Array (Option Value)} {tL:Tok} {tI0:Tok} {tI1:Tok} {tI2:Tok} {tI3:Tok} {tI4:Tok} {tI5:Tok} {tw0 tw1 tw2 tw3 tw4:Tok} {wd:Option Addr} {wn:Nat} {ws:Array (Option Value)} (X:K.In h) (G:h.Ns mainGlobals mg) (hfa:mg "law"=some (.ref fa))
  (F0:FunAt K mg "_law_cell" s_law_cell ["_law_script","_law_k"])
  (F1:FunAt K mg "_law_pot" s_law_pot ["_law_cell_here"])
  (F2:FunAt K mg "_law_draw" s_law_draw ["_law_pot_here","_law_many"])
  (F3:FunAt K mg "_law_unlike" s_law_unlike ["_law_pot_here","_law_many","_law_menu"])
  (F4:FunAt K mg "_law_book" s_law_book ["_law_pot_here","_law_most_kinds","_law_most_signs"])
  (F5:FunAt K mg "_law_signs" s_law_signs ["_law_book_here"])
  (F6:FunAt K mg "_law_many_namings" s_law_many_namings ["_law_size"])
  (F7:FunAt K mg "_law_orders" s_law_orders ["_law_many"])
  (F8:FunAt K mg "_law_all_namings" s_law_all_namings ["_law_size"])
  (F9:FunAt K mg "_law_refusal" s_law_refusal ["_law_call"])
  (F10:FunAt K mg "_law_no_size" s_law_no_size ["_law_pot_here","_law_size"])
  (F11:FunAt K mg "_law_is_told" s_law_is_told ["_law_signs_here","_law_handed","_law_due"])
  (F12:FunAt K mg "is_list" s_is_list ["thing"])
  (F13:FunAt K mg "is_name" s_is_name ["thing"])
  (F14:FunAt K mg "is_whole" s_is_whole ["thing"])
  (F15:FunAt K mg "checked_size" s_checked_size ["signs","size"])
  (F16:FunAt K mg "namings" s_namings ["signs","size"])
  (F17:FunAt K mg "as_lists" s_as_lists ["naming"])
  (F18:FunAt K mg "all_namings" s_all_namings ["signs","size"])
  (F19:FunAt K mg "orders" s_orders ["number"])
  (F20:FunAt K mg "check_apart" s_check_apart ["names"])
  (F21:FunAt K mg "checked_kinds" s_checked_kinds ["kinds"])
  (F22:FunAt K mg "checked_kind" s_checked_kind ["kinds","kind"])
  (F23:FunAt K mg "checked_places" s_checked_places ["kinds","places"])
  (F24:FunAt K mg "checked_sign_name" s_checked_sign_name ["name"])
  (F25:FunAt K mg "checked_tie" s_checked_tie ["kinds","tie"])
  (F26:FunAt K mg "checked_function" s_checked_function ["kinds","function"])
  (a27:PySem.W.nsIn K mainGlobals "law"=some (some (.ref f27)))
  (l27:K.lookup f27=some ⟨oc27,od27,.func (PySem.W.fnOf "law" "law" (defArgs s_law) (defBody s_law) (defScope s_law) .none kV27 dc27 pm27 an27 (.ref cc) ct27),sl27⟩)
  (c27:PySem.W.codeIn K (.ref cc) "law"=true)
  (k27:PySem.W.keepIn K (.ref f27)=true)
  (hC:PySem.W.codeHdIn K cc TT=true)
  (aC:PySem.W.nsIn K mainGlobals "Signs"=some (some (.ref C)))
  (M28:MethAt K C "__init__" "Signs.__init__" s__init__ ["self","kinds","ties","functions"])
  (M29:MethAt K C "kinds" "Signs.kinds" s_kinds ["self"])
  (pg:PySem.W.plainGet K C Str.empty=true)
  (hd:PySem.W.hasDictIn K C=true)
  (po:PySem.W.plainOver K C=true)
  (sa:PySem.W.findIn K (.ref C) "__setattr__"=some (some (.builtin "object.__setattr__")))
  (mk:PySem.W.makesIn K C=true)
  (kc:PySem.W.keepIn K (.ref C)=true)
  (n0:PySem.W.findIn K (.ref C) "kept_kinds"=some none)
  (n1:PySem.W.findIn K (.ref C) "kept_ties"=some none)
  (n2:PySem.W.findIn K (.ref C) "kept_functions"=some none)
  (aF:PySem.W.nsIn K mainGlobals "FewError"=some (some (.ref fe)))
  (aN:PySem.W.nsIn K mainGlobals "NoSize"=some (some (.ref N)))
  (aO:PySem.W.nsIn K mainGlobals "NoNaming"=some (some (.ref nn)))
  (aM:PySem.W.nsIn K mainGlobals "TooMany"=some (some (.ref M)))
  (aX1:PySem.W.nsIn K mainGlobals "NoPart"=some (some (.ref x1)))
  (aX2:PySem.W.nsIn K mainGlobals "NoRow"=some (some (.ref x2)))
  (aX3:PySem.W.nsIn K mainGlobals "NoSaying"=some (some (.ref x3)))
  (aX4:PySem.W.nsIn K mainGlobals "NoSigns"=some (some (.ref x4)))
  (aX5:PySem.W.nsIn K mainGlobals "NoText"=some (some (.ref x5)))
  (aX6:PySem.W.nsIn K mainGlobals "NoWorld"=some (some (.ref x6)))
  (xF:K.lookup fe=some ⟨.type "type",fdd,.cls fcd,fsl⟩)
  (bF:PySem.W.mroIn K fe (.type "BaseException")=some true)
  (xN:PySem.W.excIn K N mroVE "ValueError.__new__"=true)
  (xM:K.lookup M=some ⟨.type "type",xdd,.cls ⟨xnm,xbs,.ref M::xbm,xns,xqn,xhd,xsn,xsub,xab,xcol,false⟩,#[xk0,xk1,xk2,xk3,some (.builtin "ValueError.__new__"),xk5]⟩)
  (xT:PySem.W.tailIn K mroVE xbm=true)
  (xO:PySem.W.nsOkIn K xns=true)
  (xI:PySem.W.nsIn K xns "__init__"=some (some (.ref fM)))
  (lM:K.lookup fM=some ⟨.type "function",odM,.func (PySem.W.fnOf "__init__" "TooMany.__init__" (defArgs s_TooMany__init__) (defBody s_TooMany__init__) (defScope s_TooMany__init__) .none kVM dcM pmM anM cdMv ctM),slM⟩)
  (cM:PySem.W.codeIn K cdMv "TooMany.__init__"=true)
  (kM:PySem.W.keepIn K (.ref fM)=true)
  (ygaN:PySem.W.findIn K (.ref N) "__getattribute__"=some (some (.builtin "BaseException.__getattribute__")))
  (ygnN:PySem.W.findIn K (.ref N) "__getattr__"=some none)
  (yclN:PySem.W.findIn K (.ref N) "__class__"=some (some (.builtin "object.__class__")))
  (ymbN:PySem.W.mroIn K N (.type "BaseException")=some true)
  (ymoN:PySem.W.mroIn K N (.type "object")=some true)
  (ytyN:PySem.W.clsIn K N=some cdN)
  (yveN:PySem.W.kitOne K (.ref N) (.type "ValueError")=some true)
  (yotN:PySem.W.kitAny K (.ref N) [.ref x1,.ref x2,.ref x3,.ref x4,.ref x5,.ref x6]=some false)
  (ykNN:PySem.W.kitOne K (.ref N) (.ref N)=some true)
  (ykoN:PySem.W.kitOne K (.ref N) (.ref nn)=some false)
  (ykMN:PySem.W.kitOne K (.ref N) (.ref M)=some false)
  (yupN:PySem.W.mroIn K N (.ref fe)=some true)
  (ygaM:PySem.W.findIn K (.ref M) "__getattribute__"=some (some (.builtin "BaseException.__getattribute__")))
  (ygnM:PySem.W.findIn K (.ref M) "__getattr__"=some none)
  (yclM:PySem.W.findIn K (.ref M) "__class__"=some (some (.builtin "object.__class__")))
  (ymbM:PySem.W.mroIn K M (.type "BaseException")=some true)
  (ymoM:PySem.W.mroIn K M (.type "object")=some true)
  (ytyM:PySem.W.clsIn K M=some cdM)
  (yveM:PySem.W.kitOne K (.ref M) (.type "ValueError")=some true)
  (yotM:PySem.W.kitAny K (.ref M) [.ref x1,.ref x2,.ref x3,.ref x4,.ref x5,.ref x6]=some false)
  (ykNM:PySem.W.kitOne K (.ref M) (.ref N)=some false)
  (ykoM:PySem.W.kitOne K (.ref M) (.ref nn)=some false)
  (ykMM:PySem.W.kitOne K (.ref M) (.ref M)=some true)
  (yupM:PySem.W.mroIn K M (.ref fe)=some true)
  (ysa:PySem.W.findIn K (.ref M) "__setattr__"=some (some (.builtin "object.__setattr__")))
  (ymr:(PySem.W.clsIn K M).any (fun cd=>endsVE cd.mro&&cd.hasDict)=true)
  (yno:PySem.W.takerIn K M "many"=some none)
  (ynm:PySem.W.findIn K (.ref M) "many"=some none)
  (yhd:(PySem.W.clsIn K M).any (fun cd=>cd.hasDict)=true)
  (z_len:PySem.W.nsIn K mainGlobals "len"=some none)
  (z_max:PySem.W.nsIn K mainGlobals "max"=some none)
  (z_abs:PySem.W.nsIn K mainGlobals "abs"=some none)
  (z_divmod:PySem.W.nsIn K mainGlobals "divmod"=some none)
  (z_list:PySem.W.nsIn K mainGlobals "list"=some none)
  (z_tuple:PySem.W.nsIn K mainGlobals "tuple"=some none)
  (z_range:PySem.W.nsIn K mainGlobals "range"=some none)
  (z_int:PySem.W.nsIn K mainGlobals "int"=some none)
  (z_str:PySem.W.nsIn K mainGlobals "str"=some none)
  (z_repr:PySem.W.nsIn K mainGlobals "repr"=some none)
  (z_isinstance:PySem.W.nsIn K mainGlobals "isinstance"=some none)
  (z_all:PySem.W.nsIn K mainGlobals "all"=some none)
  (z_set:PySem.W.nsIn K mainGlobals "set"=some none)
  (z_bool:PySem.W.nsIn K mainGlobals "bool"=some none)
  (z_min:PySem.W.nsIn K mainGlobals "min"=some none)
  (z_ValueError:PySem.W.nsIn K mainGlobals "ValueError"=some none)
  (gL:PySem.W.nsIn K mainGlobals "LETTERS"=some (some (.str (Str.ofString "abcdefghijklmnopqrstuvwxyz") tL)))
  (gI0:PySem.W.nsIn K mainGlobals "LONGEST_NAME"=some (some (.int 12 tI0)))
  (gI1:PySem.W.nsIn K mainGlobals "MOST_KINDS"=some (some (.int 4 tI1)))
  (gI2:PySem.W.nsIn K mainGlobals "MOST_SIGNS"=some (some (.int 8 tI2)))
  (gI3:PySem.W.nsIn K mainGlobals "MOST_PLACES"=some (some (.int 2 tI3)))
  (gI4:PySem.W.nsIn K mainGlobals "MOST_THINGS"=some (some (.int 4 tI4)))
  (gI5:PySem.W.nsIn K mainGlobals "MOST_NAMINGS"=some (some (.int 576 tI5)))
  (gW:PySem.W.nsIn K mainGlobals "WORDS_OF_SAYINGS"=some (some (.ref wa)))
  (lW:K.lookup wa=some ⟨.type "tuple",wd,.seq #[.str (Str.ofString "all") tw0,.str (Str.ofString "some") tw1,.str (Str.ofString "not") tw2,.str (Str.ofString "and") tw3,.str (Str.ofString "or") tw4] wn,ws⟩)
  : ∃ fd:FuncData,(∀ (s:Shared) (v:Value),BindsTo s fd ⟨[v],[]⟩ [("_law_script",v)])∧∀ base:Heap,K.In base→base.Ns mainGlobals mg→base.BuiltinsAt mg TT→FnOk l.prog w K mg base CX0 9 fa fd ["_law_script"] (spLaw K TT):=by
 have T:ClS K C:=⟨⟨pg,hd,po,sa⟩,n0,n1,n2⟩
 have Z:Bl mg:=⟨PySem.W.mg_none_of X G z_len,PySem.W.mg_none_of X G z_max,PySem.W.mg_none_of X G z_abs,PySem.W.mg_none_of X G z_divmod,PySem.W.mg_none_of X G z_list,PySem.W.mg_none_of X G z_tuple,PySem.W.mg_none_of X G z_range,PySem.W.mg_none_of X G z_int,PySem.W.mg_none_of X G z_str,PySem.W.mg_none_of X G z_repr,PySem.W.mg_none_of X G z_isinstance,PySem.W.mg_none_of X G z_all,PySem.W.mg_none_of X G z_set⟩
 have Gg:Gs K mg:=⟨⟨_,PySem.W.mg_of X G gL,tL,rfl⟩,⟨_,PySem.W.mg_of X G gI0,tI0,rfl⟩,⟨_,PySem.W.mg_of X G gI1,tI1,rfl⟩,⟨_,PySem.W.mg_of X G gI2,tI2,rfl⟩,⟨_,PySem.W.mg_of X G gI3,tI3,rfl⟩,wa,PySem.W.mg_of X G gW,fun H=>.inr ⟨_,_,_,lW,rfl,rfl,by show 5≤sizeLine; decide,.cons ⟨tw0,rfl⟩ (.cons ⟨tw1,rfl⟩ (.cons ⟨tw2,rfl⟩ (.cons ⟨tw3,rfl⟩ (.cons ⟨tw4,rfl⟩ (.nil)))))⟩⟩
 have GT:∃ u,mg "MOST_THINGS"=some u∧RelV (.int 4) u:=⟨_,PySem.W.mg_of X G gI4,tI4,rfl⟩
 have GN:∃ u,mg "MOST_NAMINGS"=some u∧RelV (.int 576) u:=⟨_,PySem.W.mg_of X G gI5,tI5,rfl⟩
 obtain⟨f28,fd28,F28,b28,a28,i28,k28⟩:=M28
 obtain⟨f29,fd29,F29,b29,a29,i29,k29⟩:=M29
 have FL:=fun_mk (st:=s_law) l27 c27 k27
 have FM:=fun_mk (st:=s_TooMany__init__) lM cM kM
 have bM:=FM.binds (ps:=["self","many"]) (fun _ _ _ _ _ _ us hl=>by obtain⟨_,_,rfl⟩:=FewE.lu2 hl; rfl)
 have e:=hfa.symm.trans (PySem.W.mg_of X G a27)
 cases e
 have lkN:ExcLook K N:=⟨ygaN,ygnN,yclN,ymbN,ymoN,by rw [ytyN]; rfl⟩
 have lkM:ExcLook K M:=⟨ygaM,ygnM,yclM,ymbM,ymoM,by rw [ytyM]; rfl⟩
 have TN:Xs K N fe N nn M [x1,x2,x3,x4,x5,x6] true false:=⟨lkN,yveN,yotN,ykNN,ykoN,ykMN,yupN⟩
 have TM:Xs K M fe N nn M [x1,x2,x3,x4,x5,x6] false true:=⟨lkM,yveM,yotM,ykNM,ykoM,ykMM,yupM⟩
 have ON:=exc_cls (PySem.W.mg_of X G aN) xN
 have OM:=exc_clsI (PySem.W.mg_of X G aM) xM xT xO xI ymbM lM rfl
 refine⟨PySem.W.fnOf "law" "law" (defArgs s_law) (defBody s_law) (defScope s_law) .none kV27 dc27 pm27 an27 (.ref cc) ct27,fun s v=>.of_eq rfl,fun base bK bG bB=>?_⟩
 have dCell:=ok_cell (P:=l.prog) (w:=w) (base:=base) F0 Z
 have dPot:=ok_pot (P:=l.prog) (w:=w) (base:=base) F1 Z
 have dDraw:=ok_draw (P:=l.prog) (w:=w) (base:=base) F2 Z
 have dUnlike:=ok_unlike (P:=l.prog) (w:=w) (base:=base) F3 Z dDraw
 have dBook:=ok_book (P:=l.prog) (w:=w) (base:=base) F4 Z dDraw dUnlike
 have dIl:=ok_is_list (P:=l.prog) (w:=w) (base:=base) F12 Z
 have dIn:=ok_is_name (P:=l.prog) (w:=w) (base:=base) F13 Z Gg
 have dCa:=ok_apart (P:=l.prog) (w:=w) (base:=base) F20 Z
 have dKs:=ok_kinds (P:=l.prog) (w:=w) (base:=base) F21 Z Gg dIl dIn dCa
 have dK:=ok_kind (P:=l.prog) (w:=w) (base:=base) F22 Z dIn
 have dPl:=ok_places (P:=l.prog) (w:=w) (base:=base) F23 Z Gg dIl dK
 have dSn:=ok_sign_name (P:=l.prog) (w:=w) (base:=base) F24 Z Gg dIn
 have dTie:=ok_tie (P:=l.prog) (w:=w) (base:=base) F25 Z dIl dSn dPl
 have dFu:=ok_func (P:=l.prog) (w:=w) (base:=base) F26 Z dIl dSn dPl dK
 have dIni:=ok_init (P:=l.prog) (w:=w) (base:=base) F28 Z Gg T dIl dKs dTie dFu dCa
 have dTk:=ok_tellK (P:=l.prog) (w:=w) (base:=base) F29 Z T
 have dIlO:=ok_is_listO (P:=l.prog) (w:=w) (base:=base) F12 Z
 have dWhO:=ok_wholeO (P:=l.prog) (w:=w) (base:=base) F14 Z (PySem.W.mg_none_of X G z_bool)
 have dSz:=ok_sizeE (P:=l.prog) (w:=w) (base:=base) F15 Z T ON GT ⟨a29,i29,k29⟩ dTk b29 dIlO dWhO
 have dOr:=ok_orders (P:=l.prog) (w:=w) (base:=base) F19 Z
 have dAl:=ok_asl (P:=l.prog) (w:=w) (base:=base) F17 Z
 have dTMi:=ok_tminit (P:=l.prog) (w:=w) (base:=base) FM Z (C:=M) ⟨ysa,ymr,yno⟩
 have dAll:=ok_all (P:=l.prog) (w:=w) (base:=base) F18 Z GN dSz dOr OM dTMi bM
 have dNam:=ok_nam (P:=l.prog) (w:=w) (base:=base) F16 Z dAll dAl
 have dMkS:=ok_mks (P:=l.prog) (w:=w) (base:=base) F5 Z ⟨mk,a28,i28,kc⟩ dIni (PySem.W.mg_of X G aC) b28
 have dMny:=ok_manyL (P:=l.prog) (w:=w) (base:=base) F6 Z
 have dLo:=ok_lord (P:=l.prog) (w:=w) (base:=base) F7 Z
 have dLa:=ok_lall (P:=l.prog) (w:=w) (base:=base) F8 Z dLo
 have dRef:=ok_refusal (P:=l.prog) (w:=w) (base:=base) F9 Z (PySem.W.mg_none_of X G z_ValueError) ⟨(PySem.W.mg_of X G aF),⟨_,_,_,xF⟩,bF⟩ TN TM ⟨lkM,ynm,yhd⟩ (PySem.W.mg_of X G aN) (PySem.W.mg_of X G aO) (PySem.W.mg_of X G aM) (PySem.W.mg_of X G aX1) (PySem.W.mg_of X G aX2) (PySem.W.mg_of X G aX3) (PySem.W.mg_of X G aX4) (PySem.W.mg_of X G aX5) (PySem.W.mg_of X G aX6)
 have dNo:=ok_nosz (P:=l.prog) (w:=w) (base:=base) F10 Z dDraw
 have dTo:=ok_told (P:=l.prog) (w:=w) (base:=base) F11 Z dNam
 exact ok_law FL Z (PySem.W.mg_none_of X G z_min) rfl (PySem.W.codeHd_of_K bK hC) bB dCell dPot dDraw dBook dMkS dMny dLa dNo dTo dNam dRef
theorem walk {l:PySem.W.OpenLaw} {q:Program} {loose:List Str} {XP:(Str→Option Value)→Heap→Prop} {YP:World→Heap→Prop} {d:DefRec} {K:Params→PySem.W.Frag} {cc TT:World→Addr} (hn:l.most=some 63) (hdf:d.params.defaults=[]) (hq:PyProof.Rows.importsNone q=true) (hrec:(PyProof.Rows.recsOf q).find? (fun e=>e.name==d.name)=some d)
  (hY:∀ (w:World) (h:Heap),YP w h→(K w.params).In h) (hnt:∀ w:World,PySem.W.noTabs (K w.params)=true) (htb:∀ w:World,PySem.W.tabIn (K w.params) d.name=some (cc w,TT w))
  (F:∀ (w:World) (mg:Str→Option Value) (fa:Addr) (h:Heap),(K w.params).In h→h.Ns mainGlobals mg→mg d.name=some (.ref fa)→
   ∃ fd:FuncData,(∀ (s:Shared) (u:Value),BindsTo s fd ⟨[u],[]⟩ [("_law_script",u)])∧∀ base:Heap,(K w.params).In base→base.Ns mainGlobals mg→base.BuiltinsAt mg (TT w)→FnOk l.prog w (K w.params) mg base CX0 9 fa fd ["_law_script"] (spLaw (K w.params) (TT w))) :
  PySem.W.WalkO q loose XP YP l.row.toRowW d [] (fun f vs=>PySem.call f vs):=
 L2.walk_ofT (n:=63) (k:=9) (x:="_law_script") (CX:=fun _=>CX0) (sp:=fun w=>spLaw (K w.params) (TT w)) hn (by decide) hdf ⟨rfl,rfl,by decide,by decide⟩ hq hrec hY hnt htb F (fun _ _ a ns hl hT hS=>⟨a,ns,rfl,hS,hl,hT,fun _=>rfl⟩) fun _ _ _ _ _ z=>z
end FewE
open PySem PySem.W PyProof.Rows
set_option maxRecDepth 100000 in
set_option maxHeartbeats 0 in
theorem PySem.Challenge.cw_fewthings_k51_namings_told_holds : PySem.Challenge.rw_fewthings_k51_namings_told.Holds := by
 w_on; o_law; k_head; (case hw=>w_witness2)
 k_fill
 refine' FewE.walk (l:=PySem.Challenge.rw_fewthings_k51_namings_told) rfl rfl (by first | rfl | decide +kernel) ?rec (fun w h Y=>PySem.W.km_in_of Y) ?nt ?tb ?F
 case rec=>first | rfl | decide +kernel
 case nt=>intro w; first | rfl | kernel_rfl | decide +kernel
 case tb=>
  intro w
  refine' FewE.tab_mk ?ta ?tl ?th ?tc ?tv
  (case ta=>k_is)
  (case tl=>k_is)
  (case th=>rfl)
  (case tc=>k_is)
  (case tv=>rfl)
 case F=>
  intro w mg fa h KX G hmg
  refine' FewE.all_mk KX G hmg (FewE.funAt_mk KX G ?a0 ?l0 ?c0 ?k0 (fun _ _ _ _ _ _ us hl=>by obtain⟨_,_,rfl⟩:=FewE.lu2 hl; rfl)) (FewE.funAt_mk KX G ?a1 ?l1 ?c1 ?k1 (fun _ _ _ _ _ _ us hl=>by obtain⟨_,rfl⟩:=FewE.lu1 hl; rfl)) (FewE.funAt_mk KX G ?a2 ?l2 ?c2 ?k2 (fun _ _ _ _ _ _ us hl=>by obtain⟨_,_,rfl⟩:=FewE.lu2 hl; rfl)) (FewE.funAt_mk KX G ?a3 ?l3 ?c3 ?k3 (fun _ _ _ _ _ _ us hl=>by obtain⟨_,_,_,rfl⟩:=FewE.lu3 hl; rfl)) (FewE.funAt_mk KX G ?a4 ?l4 ?c4 ?k4 (fun _ _ _ _ _ _ us hl=>by obtain⟨_,_,_,rfl⟩:=FewE.lu3 hl; rfl)) (FewE.funAt_mk KX G ?a5 ?l5 ?c5 ?k5 (fun _ _ _ _ _ _ us hl=>by obtain⟨_,rfl⟩:=FewE.lu1 hl; rfl)) (FewE.funAt_mk KX G ?a6 ?l6 ?c6 ?k6 (fun _ _ _ _ _ _ us hl=>by obtain⟨_,rfl⟩:=FewE.lu1 hl; rfl)) (FewE.funAt_mk KX G ?a7 ?l7 ?c7 ?k7 (fun _ _ _ _ _ _ us hl=>by obtain⟨_,rfl⟩:=FewE.lu1 hl; rfl)) (FewE.funAt_mk KX G ?a8 ?l8 ?c8 ?k8 (fun _ _ _ _ _ _ us hl=>by obtain⟨_,rfl⟩:=FewE.lu1 hl; rfl)) (FewE.funAt_mk KX G ?a9 ?l9 ?c9 ?k9 (fun _ _ _ _ _ _ us hl=>by obtain⟨_,rfl⟩:=FewE.lu1 hl; rfl)) (FewE.funAt_mk KX G ?a10 ?l10 ?c10 ?k10 (fun _ _ _ _ _ _ us hl=>by obtain⟨_,_,rfl⟩:=FewE.lu2 hl; rfl)) (FewE.funAt_mk KX G ?a11 ?l11 ?c11 ?k11 (fun _ _ _ _ _ _ us hl=>by obtain⟨_,_,_,rfl⟩:=FewE.lu3 hl; rfl)) (FewE.funAt_mk KX G ?a12 ?l12 ?c12 ?k12 (fun _ _ _ _ _ _ us hl=>by obtain⟨_,rfl⟩:=FewE.lu1 hl; rfl)) (FewE.funAt_mk KX G ?a13 ?l13 ?c13 ?k13 (fun _ _ _ _ _ _ us hl=>by obtain⟨_,rfl⟩:=FewE.lu1 hl; rfl)) (FewE.funAt_mk KX G ?a14 ?l14 ?c14 ?k14 (fun _ _ _ _ _ _ us hl=>by obtain⟨_,rfl⟩:=FewE.lu1 hl; rfl)) (FewE.funAt_mk KX G ?a15 ?l15 ?c15 ?k15 (fun _ _ _ _ _ _ us hl=>by obtain⟨_,_,rfl⟩:=FewE.lu2 hl; rfl)) (FewE.funAt_mk KX G ?a16 ?l16 ?c16 ?k16 (fun _ _ _ _ _ _ us hl=>by obtain⟨_,_,rfl⟩:=FewE.lu2 hl; rfl)) (FewE.funAt_mk KX G ?a17 ?l17 ?c17 ?k17 (fun _ _ _ _ _ _ us hl=>by obtain⟨_,rfl⟩:=FewE.lu1 hl; rfl)) (FewE.funAt_mk KX G ?a18 ?l18 ?c18 ?k18 (fun _ _ _ _ _ _ us hl=>by obtain⟨_,_,rfl⟩:=FewE.lu2 hl; rfl)) (FewE.funAt_mk KX G ?a19 ?l19 ?c19 ?k19 (fun _ _ _ _ _ _ us hl=>by obtain⟨_,rfl⟩:=FewE.lu1 hl; rfl)) (FewE.funAt_mk KX G ?a20 ?l20 ?c20 ?k20 (fun _ _ _ _ _ _ us hl=>by obtain⟨_,rfl⟩:=FewE.lu1 hl; rfl)) (FewE.funAt_mk KX G ?a21 ?l21 ?c21 ?k21 (fun _ _ _ _ _ _ us hl=>by obtain⟨_,rfl⟩:=FewE.lu1 hl; rfl)) (FewE.funAt_mk KX G ?a22 ?l22 ?c22 ?k22 (fun _ _ _ _ _ _ us hl=>by obtain⟨_,_,rfl⟩:=FewE.lu2 hl; rfl)) (FewE.funAt_mk KX G ?a23 ?l23 ?c23 ?k23 (fun _ _ _ _ _ _ us hl=>by obtain⟨_,_,rfl⟩:=FewE.lu2 hl; rfl)) (FewE.funAt_mk KX G ?a24 ?l24 ?c24 ?k24 (fun _ _ _ _ _ _ us hl=>by obtain⟨_,rfl⟩:=FewE.lu1 hl; rfl)) (FewE.funAt_mk KX G ?a25 ?l25 ?c25 ?k25 (fun _ _ _ _ _ _ us hl=>by obtain⟨_,_,rfl⟩:=FewE.lu2 hl; rfl)) (FewE.funAt_mk KX G ?a26 ?l26 ?c26 ?k26 (fun _ _ _ _ _ _ us hl=>by obtain⟨_,_,rfl⟩:=FewE.lu2 hl; rfl)) ?a27 ?l27 ?c27 ?k27 ?hC ?aC (FewE.methAt_mk ?a28 ?i28 ?l28 ?c28 ?k28 (fun _ _ _ _ _ _ us hl=>by obtain⟨_,_,_,_,rfl⟩:=FewE.lu4 hl; rfl)) (FewE.methAt_mk ?a29 ?i29 ?l29 ?c29 ?k29 (fun _ _ _ _ _ _ us hl=>by obtain⟨_,rfl⟩:=FewE.lu1 hl; rfl)) ?pg ?hd ?po ?sa ?mk ?kc ?n0 ?n1 ?n2 ?aF ?aN ?aO ?aM ?aX1 ?aX2 ?aX3 ?aX4 ?aX5 ?aX6 ?xF ?bF ?xN ?xM ?xT ?xO ?xI ?lM ?cM ?kM ?ygaN ?ygnN ?yclN ?ymbN ?ymoN ?ytyN ?yveN ?yotN ?ykNN ?ykoN ?ykMN ?yupN ?ygaM ?ygnM ?yclM ?ymbM ?ymoM ?ytyM ?yveM ?yotM ?ykNM ?ykoM ?ykMM ?yupM ?ysa ?ymr ?yno ?ynm ?yhd ?z_len ?z_max ?z_abs ?z_divmod ?z_list ?z_tuple ?z_range ?z_int ?z_str ?z_repr ?z_isinstance ?z_all ?z_set ?z_bool ?z_min ?z_ValueError ?gL ?gI0 ?gI1 ?gI2 ?gI3 ?gI4 ?gI5 ?gW ?lW
  all_goals (try (first | k_is | kit_is | k_exc))
  all_goals (try (first | k_is | kit_is | k_exc | kernel_rfl))
