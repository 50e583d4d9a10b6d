import PyProof.Rows.All
import Wide.All
import OpenK.AllK
import Wide.FinOn
import Lean
import PyProof.EqAt
import PyProof.EqKinds
import PyProof.TupleCall
import PyProof.ExcBaseAll.ValueError
import PyProof.RulesAs
import PyProof.RulesDel
import PyProof.ExcArgsOwn
import PyProof.Draws
import PyProof.EnumFor
import PyProof.EnumMake
import KE.KDictList
import PyProof.ZipIter
import PyProof.TupleIter
import KE.KItemsList
import PyProof.AttrMissHeap
import KE.KDictOf
import PyProof.Rows.ZipGen
import PyProof.Rows.BootFacts
import PyProof.NeKinds
import PyProof.ListRange
import PyProof.RangeFor
import PyProof.ExcClass3
import PyProof.InstStore
import PyProof.InstStoreFacts
import OpenK.KOwn
import OpenK.KMake
import PyProof.InstLoad
import KE.KLam
import KE.KNestM
import PyProof.Rows.SortRuns
import PyProof.Rows.SortKeyStr
import KE.KSortTup
import PyProof.P3Eq
import PyProof.DictCompW
import PyProof.CollectIter
import PyProof.WalksMore
import PyProof.DictUpdate
import PyProof.StrBlockH
import PyProof.StrLawsTight
import PyProof.StrLawsChain
import PyProof.StrCalls6
import PyProof.StrLawsReplace
import PyProof.ListIndex
import PyProof.Rows.DictUnroll
import PyProof.DictWalks
import PyProof.Rows.SumAny
import KE.RegKIsAll
import PySem.Challenge.RW_fewthings_k31_sizes_and_fillings
namespace PySem.W.Fast
def tw590027274661231979:=0
def tw2770944045983398983:=0
def tw6442471399357552681:=0
def tw8632853610740663906:=0
def tw5695760050815825396:=0
def tw14897235533690455292:=0
def tw13921245864052351673:=0
def tw14202959716701930556:=0
def tw13444118290496092092:=0
def tw11659894062261834836:=0
def tw11911878006125000022:=0
def tw13712577521870578971:=0
def tw1306425294840146098:=0
def tw5525447261291387910:=0
def tw9634252191192472370:=0
def tw1740648579197143638:=0
def tw3602957021316566935:=0
def tw892978875611382656:=0
def tw8385390274071118536:=0
def tw15399280806846412401:=0
def tw9655557113064953882:=0
def tw3601358277385538418:=0
def tw15067271189495151910:=0
def tw9055561405986525527:=0
def tw11147732776709525984:=0
def tw9722856647128255501:=0
def tw12880910482703286123:=0
def tw18389917397934083549:=0
def tw6739903251515789550:=0
def tw10416569537644656474:=0
def tw12668640567698492748:=0
def tw17279305164324425829:=0
def tw6876806187690045484:=0
def tw14819579530179405444:=0
def tw3253133614919561987:=0
def tw14252325882517790844:=0
def tw1028254195837369666:=0
def tw1650292038295718623:=0
def tw4520946963096681575:=0
def tw10624372807881849612:=0
def tw3191675150085724237:=0
def tw6230901163312555147:=0
def tw2101832386164852332:=0
def tw12015738887911580306:=0
def tw11511512280123850811:=0
def tw11305668370488113913:=0
def tw11237071954944560528:=0
def tw13849974527641692459:=0
def tw15423081576322903750:=0
def tw13927001037407328405:=0
def tw1097113662889645589:=0
def tw2911040326901209526:=0
def tw12797543466466611414:=0
def tw15706636590137971442:=0
def tw2590174262360124725:=0
def tw4493231136476480059:=0
def tw14156985905357743621:=0
def tw17666151924381338163:=0
def tw5094093284826219052:=0
def tw3067562062522405950:=0
def tw14293795707171397769:=0
def tw16368385019251626811:=0
def tw9891285640544697509:=0
def tw10135619800497447167:=0
def tw1703472192757762581:=0
def tw13415950982429840848:=0
def tw11975425942698649232:=0
def tw9967362372873921536:=0
def tw3450149678297692586:=0
def tw988064733261583426:=0
def tw9353290162870533933:=0
def tw8427119879822631888:=0
def tw10460848890026900934:=0
def tw5010008713716802866:=0
def tw380156260473765770:=0
def tw11065594851870848350:=0
def tw4339012141066356716:=0
def tw9959150323098204012:=0
def tw10219748111266521620:=0
def tw14129512968667190418:=0
def tw5964985689159052651:=0
def tw9175575706608006756:=0
def tw16247793848484385232:=0
def tw692434459229517922:=0
def tw13297615992230872015:=0
def tw14188916565945598923:=0
def tw4533771603370478963:=0
def tw9929304463844787364:=0
def tw4370690958782440721:=0
def tw13744521615426912913:=0
def tw9963463722856060525:=0
def tw8252841634395219694:=0
def tw14057830921493210383:=0
def tw3383999429644265619:=0
def tw18139175166690685608:=0
def tw12038389436179671388:=0
def tw485672959271745173:=0
def tw11362337407300396232:=0
def tw6976083168838649101:=0
def tw5731543668736043249:=0
def tw8108139076373523031:=0
def tw2561621987347518747:=0
def tw10028519921819608355:=0
def tw17912256746186647762:=0
def tw1763334445021613095:=0
def tw17410486538394433860:=0
def tw17287468180182066850:=0
def tw12651823215672615095:=0
def tw13893714587232659203:=0
def tw12895398378489240439:=0
def tw17334361711257394545:=0
def tw5130123913867294516:=0
def tw3662413742027231306:=0
def tw6135019055975036895:=0
def tw6493667907301887826:=0
def tw3683405453200794139:=0
def tw10467608081989006866:=0
def tw3091025540439463918:=0
def tw11237359525054347124:=0
def tw11102779933976946022:=0
def tw4069096183765351331:=0
def tw16739577599628208738:=0
def tw1390815705255142354:=0
def tw13551315049796279635:=0
def tw9369349694280465881:=0
def tw16051889818862167720:=0
def tw11107616624791081217:=0
def tw3775859406793896772:=0
def tw7817612112326721772:=0
def tw6010300079065399242:=0
def tw5114735712183976563:=0
def tw2226057201886506091:=0
def tw1577349670994636959:=0
def tw1213332650248495783:=0
def tw8012798136734662494:=0
def tw7154374715569834080:=0
def tw9059304871097294502:=0
def tw15738706206015621795:=0
def tw658909323662583553:=0
def tw11530357869323806019:=0
def tw9692440715129430162:=0
def tw15552382429533525961:=0
def tw13730179030188813004:=0
def tw4686600126289886047:=0
def tw288035068985334494:=0
def tw289006009807890739:=0
def tw1637455924511325112:=0
def tw3878693575966499182:=0
def tw12210233996771749718:=0
def tw918864838186046053:=0
def tw15868285687027381313:=0
def tw17670752880701424504:=0
def tw16497141622819290114:=0
def tw16461511639716101013:=0
def tw10767455841896332443:=0
def tw15209809525624728988:=0
def tw9908474730737488426:=0
def tw1585746983782725575:=0
def tw99998827892286038:=0
def tw5755249194373896103:=0
def tw10636754243493259270:=0
def tw13978958406401150790:=0
def tw8677975139642415408:=0
def tw5531888258650933115:=0
def tw12160086382902945302:=0
def tw5474883813089444719:=0
def tw11799750167368812435:=0
def tw896255028680280836:=0
def tw6127432844588861899:=0
def tw17218062244935143347:=0
def tw6719858241361403547:=0
def tw4081977990726498411:=0
def tw268916179766852465:=0
def tw14007954571702071345:=0
def tw7414108797271699838:=0
def tw16770604959240038138:=0
def tw9020450470901328972:=0
def tw7551684238155286611:=0
def tw6523290352091863910:=0
def tw15694907231717563521:=0
def tw7966091736144614724:=0
def tw5642839231046382967:=0
def tw1572404320828153953:=0
def tw21436438293126709:=0
def tw11339087129162272300:=0
def tw2216967453004871389:=0
def tw17746885047693659103:=0
def tw7421061553228473873:=0
def tw6926169468647420012:=0
def tw17307401909349131570:=0
def tw7406328743986648491:=0
def tw12142802609287904441:=0
def tw1992169579346503253:=0
def tw4891036646489914786:=0
def tw3395830133565914202:=0
def tw7950322180960033669:=0
def tw575879476844077159:=0
def tw3659828381297432275:=0
def tw7133719589501711469:=0
def tw6484324284696930562:=0
def tw15142757028048299024:=0
def tw16955462948327053184:=0
def tw992737813459808314:=0
def tw7263264548341671952:=0
def tw12424745334756660277:=0
def tw996206063961458993:=0
def tw17865388553620681818:=0
def tw14623067188982918611:=0
def tw10607969672064603451:=0
def tw2037435493769288471:=0
def tw13210593211014857877:=0
def tw4256432634415054321:=0
def tw9950104549154355376:=0
def tw6888014808663930121:=0
def tw16083851211041784530:=0
def tw10883167181892588754:=0
def tw8981315920377247724:=0
def tw4793475522490908588:=0
def tw12267618197909474425:=0
def tw12193236205722776064:=0
def tw7096414171286271846:=0
def tw13457173431638642292:=0
def tw13118570116347190928:=0
def tw2489159708194582962:=0
def tw11275881815623466415:=0
def tw15779870977723897655:=0
def tw17360957595716941603:=0
def tw2671782538542164631:=0
def tw3031418349672555236:=0
def tw10546575323810842766:=0
def tw13721532035796800796:=0
def tw5930400243903847203:=0
def tw16061428175595830376:=0
def tw16937642392207119909:=0
def tw912159729320668314:=0
def tw8974869712338820785:=0
def tw5778715473929292751:=0
def tw3899639081033849397:=0
def tw236685792059293298:=0
def tw17949517975119662321:=0
def tw1354251923560896644:=0
def tw13436098745121832229:=0
def tw11264718070869365329:=0
def tw10316669074223539882:=0
def tw6127787759937993992:=0
def tw3523171955985233540:=0
def tw9328375269974407435:=0
def tw8820082338968478745:=0
def tw1935118395354286215:=0
def tw9995472527397312279:=0
def tw10937565057123893123:=0
def tw3439650594007212508:=0
def tw11610867114556592326:=0
def tw14868103487777555066:=0
def tw4571368598889412167:=0
def tw10700224314570444430:=0
def tw16710129224285157309:=0
def tw9415404813043473706:=0
def tw2532151638542555461:=0
def tw15269868037523457816:=0
def tw8262101126234538464:=0
def tw7992697080002622406:=0
def tw4381420734810670180:=0
def tw13944340908727329159:=0
def tw10351206986868804786:=0
def tw15336790070732080465:=0
def tw7244459543477920073:=0
def tw5582098165101754829:=0
def tw3694756464979418534:=0
def tw3396722071631173250:=0
def tw18225142082336124001:=0
def tw17739350069322450875:=0
def tw17062341960503766214:=0
def tw16453826793536243507:=0
def tw16104964204085542391:=0
def tw13956680089196997842:=0
def tw11529592547451790753:=0
def tw11108881047371181176:=0
def tw7280020777282842921:=0
def tw899497199811816647:=0
def tw5510133080103385463:=0
def tw4384492232706668973:=0
def tw4064181243838157445:=0
def tw3796735099237656914:=0
def tw18401495760789916023:=0
def tw16376740073414973823:=0
def tw16289448229093387887:=0
def tw15002059456006897338:=0
def tw13801222600079046843:=0
def tw11771660252129870591:=0
def tw10858115385773347886:=0
def tw7669636068678476543:=0
def tw9911897018067724591:=0
def tw9380912427583300202:=0
def tw8629945721711974749:=0
def tw742178751143489595:=0
def tw5786480732021928794:=0
def tw4958688850865536060:=0
def tw4523692979162581898:=0
def tw207724174427556766:=0
end PySem.W.Fast
set_option Elab.async false
set_option linter.all false
set_option maxRecDepth 100000
namespace L2
open PySem PySem.Spec PyProof.Rows
abbrev Key:=Sum Int Str
def jY:Key→Value→Bool
 | .inl k,v=>Value.isInt k v
 | .inr x,v=>Value.isStrOf x v
def y2 (w:World):Key→Int
 | .inl k=>hashInt k
 | .inr x=>hashStr w x
theorem bY:∀ {k:Key} {v:Value},jY k v=true→(∃ i t,k=Sum.inl i∧v=Value.int i t)∨(∃ x t,k=Sum.inr x∧v=Value.str x t)
 | .inl i,v,h=>by
  obtain⟨t,e⟩:=Value.isInt_shape (k:=i) (v:=v) h
  exact .inl ⟨i,t,rfl,e⟩
 | .inr x,v,h=>by
  obtain⟨t,e⟩:=Value.isStrOf_shape (x:=x) (v:=v) h
  exact .inr ⟨x,t,rfl,e⟩
theorem qt (i:Int) (t:Tok):jY (.inl i) (.int i t)=true:=by simp [jY,Value.isInt]
theorem qr (x:Str) (t:Tok):jY (.inr x) (.str x t)=true:=by simp [jY,Value.isStrOf]
theorem wU (a b:Int):decide ((Sum.inl a:Key)=Sum.inl b)=(a==b):=by
 by_cases e:a=b
 ·subst e; simp
 ·have h:¬ (Sum.inl a:Key)=Sum.inl b:=fun q=>e (Sum.inl.inj q)
  rw [decide_eq_false h]
  exact(beq_eq_false_iff_ne.mpr e).symm
theorem wR (a b:Str):decide ((Sum.inr a:Key)=Sum.inr b)=decide (a=b):=by
 by_cases e:a=b
 ·subst e; simp
 ·have h:¬ (Sum.inr a:Key)=Sum.inr b:=fun q=>e (Sum.inr.inj q)
  rw [decide_eq_false h,decide_eq_false e]
theorem wT (a:Int) (b:Str):decide ((Sum.inl a:Key)=Sum.inr b)=false:=decide_eq_false (fun q=>nomatch q)
theorem wS (a:Str) (b:Int):decide ((Sum.inr a:Key)=Sum.inl b)=false:=decide_eq_false (fun q=>nomatch q)
def bX (prog:Program) (w:World):PySem.KeyKind prog w Key where
 is:=jY
 hash:=y2 w
 inj:=fun v a b ha hb=>by
  rcases bY ha with ⟨i,t,rfl,rfl⟩ | ⟨x,t,rfl,rfl⟩
  ·rcases bY hb with ⟨j,u,rfl,e⟩ | ⟨y,u,rfl,e⟩
   ·injection e with e1 _; rw [e1]
   ·exact nomatch e
  ·rcases bY hb with ⟨j,u,rfl,e⟩ | ⟨y,u,rfl,e⟩
   ·exact nomatch e
   ·injection e with e1 _; rw [e1]
 byValue:=fun k v h=>by
  rcases bY h with ⟨i,t,rfl,rfl⟩ | ⟨x,t,rfl,rfl⟩ <;> rfl
 pyHash:=fun hv h=>by
  rcases bY hv with ⟨i,t,rfl,rfl⟩ | ⟨x,t,rfl,rfl⟩
  ·exact wpAny_pyHash_int h
  ·exact wpAny_pyHash_str h
 eqBool:=fun hu hv h=>by
  rcases bY hu with ⟨i,t,rfl,rfl⟩ | ⟨x,t,rfl,rfl⟩
  ·rcases bY hv with ⟨j,u,rfl,rfl⟩ | ⟨y,u,rfl,rfl⟩
   ·rw [wU] at h; exact wpAny_eqBool_int h
   ·rw [wT] at h; exact SeqAt.EqAt.int_str i t y u _ _ _ _ h
  ·rcases bY hv with ⟨j,u,rfl,rfl⟩ | ⟨y,u,rfl,rfl⟩
   ·rw [wS] at h; exact SeqAt.EqAt.str_int x t j u _ _ _ _ h
   ·rw [wR] at h; exact wpAny_eqBool_str h
 «strs»:=fun k x t v h=>by
  rcases bY h with ⟨i,u,rfl,e⟩ | ⟨y,u,rfl,e⟩
  ·exact nomatch e
  ·injection e with e1 _
   subst e1
   cases v <;> rfl
theorem md (prog:Program) (w:World) (i:Int) (t:Tok):(bX prog w).is (.inl i) (.int i t)=true:=qt i t
theorem iy (prog:Program) (w:World) (x:Str) (t:Tok):(bX prog w).is (.inr x) (.str x t)=true:=qr x t
inductive V where
 | non | bl (b:Bool) | int (i:Int) | str (x:Str) | byt (b:Array UInt8) | flt (b:UInt64) | ref (a:Addr) | ty (n:String)
 deriving DecidableEq
def aM:V→Value→Prop
 | .non,u=>u=Value.none
 | .bl b,u=>u=Value.bool b
 | .int i,u=>∃ t,u=Value.int i t
 | .str x,u=>∃ t,u=Value.str x t
 | .byt b,u=>∃ t,u=Value.bytes b t
 | .flt b,u=>∃ t,u=Value.float b t
 | .ref a,u=>u=Value.ref a
 | .ty n,u=>u=Value.type n
abbrev aI:List V→List Value→Prop:=Paired aM
theorem aI.length {xs:List V} {us:List Value} (r:aI xs us):xs.length=us.length:=Paired.length r
theorem aI.get:∀ {xs:List V} {us:List Value} {i:Nat} {x:V},aI xs us→xs[i]? = some x→∃ u,us[i]? = some u∧aM x u
 | _,_,_,_,.nil,e=>by simp at e
 | _,_,0,_,.cons r _,e=>by simp at e; subst e; exact⟨_,rfl,r⟩
 | _,_,i+1,x,.cons _ t,e=>by
  obtain⟨u,h1,h2⟩:=aI.get (i:=i) (x:=x) t (by simpa using e)
  exact⟨u,by simpa using h1,h2⟩
theorem aI.set {x:V} {u:Value} (r:aM x u):∀ {xs:List V} {us:List Value} (i:Nat),aI xs us→aI (xs.set i x) (us.set i u)
 | _,_,_,.nil=>.nil
 | _,_,0,.cons _ t=>.cons r t
 | _,_,i+1,.cons q t=>.cons q (aI.set r i t)
theorem aI.append:∀ {xs ys:List V} {us ws:List Value},aI xs us→aI ys ws→aI (xs++ys) (us++ws)
 | _,_,_,_,.nil,s=>s
 | _,_,_,_,.cons r t,s=>.cons r (aI.append t s)
theorem aI.take:∀ {xs:List V} {us:List Value} (n:Nat),aI xs us→aI (xs.take n) (us.take n)
 | _,_,0,_=>.nil
 | _,_,_+1,.nil=>.nil
 | _,_,n+1,.cons r t=>.cons r (aI.take n t)
theorem aI.drop:∀ {xs:List V} {us:List Value} (n:Nat),aI xs us→aI (xs.drop n) (us.drop n)
 | _,_,0,r=>r
 | _,_,_+1,.nil=>.nil
 | _,_,n+1,.cons _ t=>aI.drop n t
def fK:Option V→Option Value→Prop
 | some v,some u=>aM v u
 | none,none=>True
 | _,_=>False
def KV {κ:Type}:List (κ×V)→List (κ×Value)→Prop:=Paired fun (p:κ×V) (q:κ×Value)=>p.1=q.1∧aM p.2 q.2
def kV:Key→V
 | .inl i=>.int i
 | .inr x=>.str x
inductive HO where
 | lst (xs:List V)
 | tup (xs:List V)
 | dK (kvs:List (Key×V)) | dT (kvs:List (List Key×V))
 | set (S:Int→Bool) (n:Nat)
 | ins (C dx:Addr) (fs:List (Str×V))
 | own (x:Addr)
 | xd (fs:List (Str×V))
 | met (f x:Addr)
 | rng (lo hi:Int)
 | frz (o:Obj) (u:HO)
 | tbl (ps:Array Value)
 | ext (φ:Heap→Prop)
abbrev Hp:=Addr→Option HO
def upd (H:Hp) (a:Addr) (o:HO):Hp:=fun b=>if b=a then some o else H b
theorem ac {H:Hp} {a:Addr} {o:HO}:upd H a o a=some o:=by unfold upd; rw [if_pos rfl]
theorem ag {H:Hp} {a b:Addr} {o:HO} (h:b≠a):upd H a o b=H b:=by unfold upd; rw [if_neg h]
theorem ui {H:Hp} {a:Addr} {o u:HO}:upd (upd H a o) a u=upd H a u:=by
 funext b; unfold upd; split <;> rfl
theorem al {H:Hp} {a b:Addr} {o:HO} (h:H a=some o) (h':H b=none):a≠b:=by
 intro e; subst e; rw [h] at h'; cases h'
section
variable (P:Program) (w:World)
def bh (H:Hp) (h:Heap) (a:Addr):HO→Prop
 | .lst xs=>xs.length≤sizeLine∧∃ (its:List Value) (n:Nat),aI xs its∧h.get? a=some {cls:=.type "list",data:=.seq its.toArray n}
 | .tup xs=>xs.length≤sizeLine∧∃ its:List Value,aI xs its∧IsTup h a its.toArray
 | .dK kvs=>kvs.length≤sizeLine∧(a==sysModules)=false∧∃ vs,KV kvs vs∧h.DictOf (bX P w) a vs
 | .dT kvs=>kvs.length≤sizeLine∧(a==sysModules)=false∧∃ xs:List (List Key×Addr×Value),
   Paired (fun (p:List Key×V) (q:List Key×Addr×Value)=>p.1=q.1∧H q.2.1=some (.tup (p.1.map kV))∧aM p.2 q.2.2) kvs xs∧
   ∃ o es ep,h.get? a=some o∧o.ExactDict∧o.data=.dict es ep∧es.toList=xs.map (entryOfKey (tupleKind (bX P w)))∧(xs.map (·.1)).Nodup
 | .set S n=>h.SetOf (intKind P w) a S n
 | .ins C dx fs=>H dx=some (.own a)∧fs.length≤1000∧dx≠a∧h.get? a=some (PySem.W.instObj C dx)∧
   ∃ mA,h.Ns1 dx mA∧(∀ f,fK (fs.lookup f) (mA f))∧PySem.Within mA (fs.map (·.1))
 | .own _=>∃ o,h.get? a=some o
 | .xd fs=>∃ mA,h.Ns1 a mA∧∀ f,fK (fs.lookup f) (mA f)
 | .rng lo hi=>∃ t u v,h.get? a=some {cls:=.type "range",data:=.fields #[.int lo t,.int hi u,.int 1 v]}
 | .frz o u=>h.get? a=some o∧bh H h a u
 | .tbl ps=>h.get? a=some {cls:=.none,data:=.fields ps}
 | .met f x=>h.get? a=some (PySem.W.methodObj (.ref f) (.ref x))
 | .ext φ=>φ h∧(∃ o,h.get? a=some o)∧∀ h1 h2:Heap,φ h1→(∀ o,h1.get? a=some o→h2.get? a=some o)→φ h2
def HOk (H:Hp) (h:Heap):Prop:=∀ a o,H a=some o→bh P w H h a o
end
section
variable {P:Program} {w:World} {H H':Hp} {h h':Heap} {a:Addr} {o:HO}
theorem bh.lt (x:bh P w H h a o):a<h.objs.size:=by
 cases o with
 | lst xs=>obtain⟨_,_,_,_,e⟩:=x; exact Heap.lt_size e
 | tup xs=>obtain⟨_,_,_,p⟩:=x; exact p.lt
 | dK kvs=>obtain⟨_,_,_,_,o,_,_,e,_⟩:=x; exact Heap.lt_size e
 | dT kvs=>obtain⟨_,_,_,_,o,_,_,e,_⟩:=x; exact Heap.lt_size e
 | set S n=>obtain⟨o,_,_,_,e,_⟩:=x; exact Heap.lt_size e
 | ins C dx fs=>obtain⟨_,_,_,e,_⟩:=x; exact Heap.lt_size e
 | own y=>obtain⟨_,e⟩:=x; exact Heap.lt_size e
 | xd fs=>obtain⟨_,⟨_,_,_,e,_⟩,_⟩:=x; exact Heap.lt_size e
 | rng lo hi=>obtain⟨_,_,_,e⟩:=x; exact Heap.lt_size e
 | frz ob u=>obtain⟨e,_⟩:=x; exact Heap.lt_size e
 | tbl ps=>exact Heap.lt_size (show h.get? a=some _ from x)
 | met f y=>exact Heap.lt_size (show h.get? a=some _ from x)
 | ext φ=>obtain⟨_,⟨_,e⟩,_⟩:=x; exact Heap.lt_size e
theorem Paired.mapP {α β:Type} {F G:α→β→Prop}:∀ {l₁:List α} {l₂:List β},Paired F l₁ l₂→(∀ a b,F a b→G a b)→Paired G l₁ l₂
 | _,_,.nil,_=>.nil
 | _,_,.cons r t,f=>.cons (f _ _ r) (Paired.mapP t f)
theorem bh.stay (x:bh P w H h a o) (k:∀ b u,(b=a∨H b=some (.own a))→h.get? b=some u→h'.get? b=some u)
  (ho:∀ b,H b=some (.own a)→H' b=some (.own a)) (ht:∀ b xs,H b=some (.tup xs)→H' b=some (.tup xs)):bh P w H' h' a o:=by
 induction o with
 | lst xs=>obtain⟨z,its,n,r,e⟩:=x; exact⟨z,its,n,r,k _ _ (.inl rfl) e⟩
 | tup xs=>obtain⟨z,its,r,ob,e,c⟩:=x; exact⟨z,its,r,ob,k _ _ (.inl rfl) e,c⟩
 | dK kvs=>obtain⟨z,y,vs,r,ob,es,ep,e,c⟩:=x; exact⟨z,y,vs,r,ob,es,ep,k _ _ (.inl rfl) e,c⟩
 | dT kvs=>
  obtain⟨z,y,xs,r,ob,es,ep,e,c⟩:=x
  exact⟨z,y,xs,Paired.mapP r fun p q z=>⟨z.1,ht _ _ z.2.1,z.2.2⟩,ob,es,ep,k _ _ (.inl rfl) e,c⟩
 | set S n=>obtain⟨ob,es,ep,t,e,c⟩:=x; exact⟨ob,es,ep,t,k _ _ (.inl rfl) e,c⟩
 | ins C dx fs=>
  obtain⟨d,z,ne,e,mA,⟨od,es,ep,e2,c⟩,r⟩:=x
  exact⟨ho _ d,z,ne,k _ _ (.inl rfl) e,mA,⟨od,es,ep,k _ _ (.inr d) e2,c⟩,r⟩
 | own y=>obtain⟨ob,e⟩:=x; exact⟨ob,k _ _ (.inl rfl) e⟩
 | xd fs=>obtain⟨mA,⟨od,es,ep,e,c⟩,r⟩:=x; exact⟨mA,⟨od,es,ep,k _ _ (.inl rfl) e,c⟩,r⟩
 | rng lo hi=>obtain⟨t,u,v,e⟩:=x; exact⟨t,u,v,k _ _ (.inl rfl) e⟩
 | frz ob u ih=>obtain⟨e,q⟩:=x; exact⟨k _ _ (.inl rfl) e,ih q⟩
 | tbl ps=>
  have e:h.get? a=some {cls:=.none,data:=.fields ps}:=x
  show h'.get? a=some {cls:=.none,data:=.fields ps}
  exact k a _ (.inl rfl) e
 | met f y=>
  have e:h.get? a=some (PySem.W.methodObj (.ref f) (.ref y)):=x
  show h'.get? a=some (PySem.W.methodObj (.ref f) (.ref y))
  exact k a _ (.inl rfl) e
 | ext φ=>obtain⟨p,⟨o,e⟩,st⟩:=x; exact⟨st _ _ p fun o q=>k _ _ (.inl rfl) q,⟨o,k _ _ (.inl rfl) e⟩,st⟩
theorem HOk.lt (x:HOk P w H h) (e:H a=some o):a<h.objs.size:=(x a o e).lt
theorem HOk.fresh (x:HOk P w H h) (e:h.objs.size≤a):H a=none:=by
 cases q:H a with
 | none=>rfl
 | some u=>exact absurd (Nat.lt_of_lt_of_le (x.lt q) e) (Nat.lt_irrefl _)
theorem HOk.kept (x:HOk P w H h) (k:∀ b u,h.get? b=some u→h'.get? b=some u):HOk P w H h':=fun a o e=>
 (x a o e).stay (fun b u _ q=>k b u q) (fun _ q=>q) fun _ _ q=>q
theorem HOk.laid (x:HOk P w H h) (k:∀ b u,h.get? b=some u→h'.get? b=some u) (hp:h.objs.size≤a) (new:bh P w (upd H a o) h' a o):HOk P w (upd H a o) h':=fun b u e=>by
 have hn:=x.fresh hp
 by_cases hb:b=a
 ·subst hb; rw [ac] at e; cases e; exact new
 ·rw [ag hb] at e
  exact(x b u e).stay (fun c v _ q=>k c v q) (fun c q=>by rw [ag (al q hn)]; exact q) fun c xs q=>by rw [ag (al q hn)]; exact q
end
def Rd (H:Hp) (a:Addr) (u:HO):Prop:=H a=some u∨∃ o,H a=some (.frz o u)
theorem Rd.ok {P:Program} {w:World} {H:Hp} {h:Heap} {a:Addr} {u:HO} (r:Rd H a u) (x:HOk P w H h):bh P w H h a u:=by
 rcases r with r | ⟨o,r⟩
 ·exact x a u r
 ·obtain⟨_,q⟩:=x a _ r
  exact q
def Mut:Option HO→Prop
 | some (.lst _)=>True
 | some (.dK _)=>True
 | some (.dT _)=>True
 | some (.set _ _)=>True
 | some (.ins _ _ _)=>True
 | some (.ext _)=>True
 | _=>False
section
variable {P:Program} {w:World} {H:Hp} {h h':Heap} {x e:Addr} {o':HO}
theorem HOk.write (ok:HOk P w H h) (mu:Mut (H x)) (he:e=x∨H e=some (.own x)) (k:∀ b u,b≠e→h.get? b=some u→h'.get? b=some u) (heo:∃ u,h'.get? e=some u)
  (new:bh P w (upd H x o') h' x o'):HOk P w (upd H x o') h':=fun b u q=>by
 have nown:∀ c y,H c=some (.own y)→c≠x:=fun c y r z=>by subst z; rw [r] at mu; exact mu
 have ntup:∀ c xs,H c=some (.tup xs)→c≠x:=fun c xs r z=>by subst z; rw [r] at mu; exact mu
 by_cases hb:b=x
 ·subst hb; rw [ac] at q; cases q; exact new
 ·rw [ag hb] at q
  by_cases hbe:b=e
  ·have q':H b=some (.own x):=by
    rcases he with z | z
    ·exact absurd (hbe.trans z) hb
    ·rw [hbe]; exact z
   rw [q] at q'; cases q'
   obtain⟨v,hv⟩:=heo
   exact⟨v,by rw [hbe]; exact hv⟩
  ·refine(ok b u q).stay (fun c v hc r=>k c v ?_ r) (fun c r=>by rw [ag (nown c b r)]; exact r) fun c xs r=>by rw [ag (ntup c xs r)]; exact r
   rcases hc with rfl | hc
   ·exact hbe
   ·rintro rfl
    rcases he with z | z
    ·exact nown c b hc z
    ·rw [hc] at z; cases z; exact hb rfl
end
structure Un (fs ex:List Addr) (H H':Hp) (h h':Heap):Prop where
 keep:∀ b o,h.get? b=some o→H b=none→b∉fs→b∉ex→h'.get? b=some o
 slot:∀ b o,h.get? b=some o→H b=none→b∈fs→b∉ex→∃ sl,h'.get? b=some {o with slots:=sl}
 free:∀ b o,h.get? b=some o→H b=none→b∉ex→H' b=none
 there:∀ b o,h.get? b=some o→b∉ex→∃ o',h'.get? b=some o'
 tups:∀ b xs,H b=some (.tup xs)→H' b=some (.tup xs)
 frzs:∀ b o u,H b=some (.frz o u)→H' b=some (.frz o u)
 tbls:∀ b ps,H b=some (.tbl ps)→∃ more,H' b=some (.tbl (ps++more))
section
variable {fs fs' ex ex':List Addr} {H H1 H2:Hp} {h h1 h2 h':Heap} {a x e:Addr} {o:HO}
theorem Un.any (u:Un fs ex H H1 h h1) {b:Addr} {ob:Obj} (q:h.get? b=some ob) (n:H b=none) (hx:b∉ex):∃ sl,h1.get? b=some {ob with slots:=sl}:=by
 by_cases hb:b∈fs
 ·exact u.slot b ob q n hb hx
 ·exact⟨ob.slots,u.keep b ob q n hb hx⟩
theorem Un.kept (k:∀ b u,h.get? b=some u→h'.get? b=some u):Un fs ex H H h h':=
 ⟨fun b ob q _ _ _=>k b ob q,fun b ob q _ _ _=>⟨ob.slots,k b ob q⟩,fun _ _ _ n _=>n,fun b ob q _=>⟨ob,k b ob q⟩,fun _ _ q=>q,fun _ _ _ q=>q,fun _ ps q=>⟨#[],by rw [q]; simp⟩⟩
theorem Un.refl:Un fs ex H H h h:=Un.kept fun _ _ q=>q
theorem Un.laid (k:∀ b u,h.get? b=some u→h'.get? b=some u) (hp:h.objs.size≤a) (hn:H a=none):Un fs ex H (upd H a o) h h' where
 keep:=fun b u q _ _ _=>k b u q
 slot:=fun b u q _ _ _=>⟨u.slots,k b u q⟩
 free:=fun b u q n _=>by rw [ag (Nat.ne_of_lt (Nat.lt_of_lt_of_le (Heap.lt_size q) hp))]; exact n
 there:=fun b u q _=>⟨u,k b u q⟩
 tups:=fun b xs q=>by rw [ag (al q hn)]; exact q
 frzs:=fun b u xs q=>by rw [ag (al q hn)]; exact q
 tbls:=fun b ps q=>⟨#[],by rw [ag (al q hn),q]; simp⟩
theorem Un.write (mu:Mut (H x)) (he:e=x∨H e=some (.own x)) (k:∀ b u,b≠e→h.get? b=some u→h'.get? b=some u) (heo:∃ u,h'.get? e=some u):Un fs ex H (upd H x o) h h':=by
 have hx:∀ b,H b=none→b≠x:=fun b n z=>by subst z; rw [n] at mu; exact mu
 have hb:∀ b,H b=none→b≠e:=fun b n z=>by
  subst z
  rcases he with r | r
  ·exact hx b n r
  ·rw [n] at r; cases r
 have hm:∀ b u,H b=some u→¬ Mut (some u)→b≠x:=fun b u q nm z=>by subst z; rw [q] at mu; exact nm mu
 refine⟨fun b u q n _ _=>k b u (hb b n) q,fun b u q n _ _=>⟨u.slots,k b u (hb b n) q⟩,fun b u q n _=>by rw [ag (hx b n)]; exact n,fun b u q _=>?_,
  fun b xs q=>by rw [ag (hm b _ q fun z=>z)]; exact q,fun b u xs q=>by rw [ag (hm b _ q fun z=>z)]; exact q,fun b ps q=>⟨#[],by rw [ag (hm b _ q fun z=>z),q]; simp⟩⟩
 by_cases hbe:b=e
 ·subst hbe; exact heo
 ·exact⟨u,k b u hbe q⟩
end
def trk (h:Heap) (H:Hp):List Addr:=(List.range h.objs.size).filter fun a=>(H a).isSome
def kQ (h:Heap) (H:Hp):Heap:=PySem.W.hideAll h (trk h H)
theorem qw (h:Heap) (H:Hp):(kQ h H).objs.size=h.objs.size:=PySem.W.hideAll_size _ _
theorem jn {h:Heap} {H:Hp} {b:Addr} {o:Obj} (e:h.get? b=some o) (n:H b=none):(kQ h H).get? b=some o:=
 PySem.W.hideAll_get _ e fun hm=>by
  have q:(H b).isSome=true:=(List.mem_filter.mp hm).2
  rw [n] at q; simp at q
theorem uY {h:Heap} {H:Hp} {b:Addr} {o:Obj} (e:(kQ h H).get? b=some o):h.get? b=some o∧H b=none:=by
 have e':h.get? b=some o:=PySem.W.of_hideAll (trk h H) e
 refine⟨e',?_⟩
 cases q:H b with
 | none=>rfl
 | some x=>
  have hm:b∈trk h H:=List.mem_filter.mpr ⟨List.mem_range.mpr (Heap.lt_size e'),by simp [q]⟩
  have z:(kQ h H).get? b=none:=PySem.W.hideAll_none (trk h H) hm
  rw [z] at e; cases e
def vw (g h:Heap) (L:Addr):List (Addr×Obj):=(List.range h.objs.size).filterMap fun a=>if a=L∨(g.get? a).isSome=true then none else (h.get? a).map fun o=>(a,o)
def rest (g h:Heap) (L d:Addr):List (Addr×Obj):=(vw g h L).filter fun p=>decide (p.1≠d)
structure Mod (K:PySem.W.Frag) (mg:Str→Option Value) (base:Heap):Prop where
 kin:K.In base
 glob:base.Ns mainGlobals mg
 blt:∃ mb,base.Ns builtinsNs mb∧∀ x:Str,x≠"__name__"→mb x=bootBuiltins x
 nolimit:base.NoLimit
 sys:∃ mm,base.Ns sysModules mm
structure Cx where
 prog:Program
 w:World
 K:PySem.W.Frag
 mg:Str→Option Value
 base:Heap
 A:Around
 N:List Str
 s₀:Shared
 H₀:Hp
 env:Env
 outer:List Env
 stack:List Env
 ex:List Addr
 fn:Str→Bool
 calm:Bool
 pn:List (Addr×Obj)
 xe:Value→Shared→Prop
def frs (l:List Env):List Addr:=l.filterMap (·.frame)
abbrev Cx.fs (X:Cx):List Addr:=frs X.outer
def Vis (sc:Scope) (x:Str):Prop:=sc.names.lookup x=some .local∨sc.names.lookup x=some .cell∨sc.names.lookup x=some .free
def Loc (sc:Scope) (x:Str):Prop:=sc.names.lookup x=some .local∨sc.names.lookup x=some .cell
def zd (env:Env) (h:Heap) (m:Str→Option Value) (x:Str) (u:Value):Prop:=
 (env.kindOf x=some .local∧m x=some u)∨((env.kindOf x=some .cell∨env.kindOf x=some .free)∧∃ c,env.cells.lookup x=some c∧h.IsCell c (some u))
structure Cx.Ok (X:Cx):Prop where
 mod:Mod X.K X.mg X.base
 kind:X.env.scope.kind=.function
 glob:X.env.globals=mainGlobals
 blt:X.env.builtins=builtinsNs
 above:X.s₀.heap.objs.size≤X.env.locals
 inj:∀ x y c,X.env.cells.lookup x=some c→X.env.cells.lookup y=some c→x=y
 has:∀ x,(X.env.kindOf x=some .cell∨X.env.kindOf x=some .free)→∃ c,X.env.cells.lookup x=some c
 cab:∀ x c,X.fn x=true→X.env.cells.lookup x=some c→X.s₀.heap.objs.size≤c
 hd:X.calm=true→X.A.handled=none
 frames:X.A.frames=some X.stack
 stk:X.stack=X.outer∨(X.stack=X.env::X.outer∧X.env.frame=some X.env.locals)
 exf:∀ b∈X.ex,b≠X.env.locals∧∀ x c,X.env.cells.lookup x=some c→c≠b
 bs:∀ b o,X.base.get? b=some o→X.s₀.heap.get? b=some o∧X.H₀ b=none
 bsz:X.base.objs.size≤X.s₀.heap.objs.size
 noex:∀ b o,X.base.get? b=some o→b∉X.ex
 exfs:∀ b∈X.ex,b∉X.fs
 funs:X.s₀.heap.FunFrames X.base X.outer
 frf:∀ b∈X.fs,X.H₀ b=none
structure Inv (X:Cx) (pins:List (Addr×Obj)) (σ:List (Option V)) (H:Hp) (s:Shared):Prop where
 ok:X.Ok
 os:s.os=X.s₀.os
 bare:AllBare s.gens
 base:Un X.fs X.ex X.H₀ H X.s₀.heap s.heap
 loc:∃ m,s.heap.Ns X.env.locals m∧∀ (i:Nat) (x:Str) (v:V),X.N[i]? = some x→σ[i]? = some (some v)→Vis X.env.scope x→∃ u,aM v u∧zd X.env s.heap m x u
 cell:∀ x c,X.env.cells.lookup x=some c→∃ v,s.heap.IsCell c v
 free:H X.env.locals=none
 freeC:∀ x c,X.env.cells.lookup x=some c→H c=none
 pin:∀ p∈X.pn++pins,s.heap.get? p.1=some p.2∧H p.1=none∧p.1≠X.env.locals∧p.1∉X.fs∧∀ v,p.2.data≠.cell v
 hok:HOk X.prog X.w H s.heap
 len:σ.length=X.N.length
section
variable {X:Cx} {pins:List (Addr×Obj)} {σ:List (Option V)} {H H':Hp} {s:Shared} {h':Heap}
theorem Cx.Ok.nofr (ok:X.Ok) {b:Addr} {o:Obj} (e:X.base.get? b=some o):b∉X.fs:=fun hb=>by
 have:=(ok.funs.mem hb).1
 rw [e] at this; cases this
theorem Inv.bs (I:Inv X pins σ H s):∀ b o,X.base.get? b=some o→s.heap.get? b=some o∧H b=none:=fun b o e=>
 ⟨I.base.keep b o (I.ok.bs b o e).1 (I.ok.bs b o e).2 (I.ok.nofr e) (I.ok.noex b o e),I.base.free b o (I.ok.bs b o e).1 (I.ok.bs b o e).2 (I.ok.noex b o e)⟩
theorem Inv.bk (I:Inv X pins σ H s):∀ b o,X.base.get? b=some o→s.heap.get? b=some o:=fun b o e=>(I.bs b o e).1
theorem Inv.mod (I:Inv X pins σ H s):Mod X.K X.mg X.base:=I.ok.mod
theorem Inv.kIn (I:Inv X pins σ H s):X.K.In s.heap:=I.ok.mod.kin.keeps I.bk
theorem Inv.lt (I:Inv X pins σ H s):X.env.locals<s.heap.objs.size:=let ⟨_,hn,_⟩:=I.loc; hn.lt
theorem Inv.sz (I:Inv X pins σ H s):X.s₀.heap.objs.size≤s.heap.objs.size:=Nat.le_trans I.ok.above (Nat.le_of_lt I.lt)
theorem Inv.nofs (I:Inv X pins σ H s) {a:Addr} (h:s.heap.objs.size≤a):a∉X.fs:=fun hb=>by
 obtain⟨_,o,ho,_⟩:=I.ok.funs.mem hb
 exact absurd (Nat.lt_of_lt_of_le (Heap.lt_size ho) (Nat.le_trans I.sz h)) (Nat.lt_irrefl _)
theorem Inv.cne (I:Inv X pins σ H s):∀ x c,X.env.cells.lookup x=some c→c≠X.env.locals:=fun x c e z=>by
 obtain⟨v,o,ho,hd⟩:=I.cell x c e
 obtain⟨m,⟨o',es,ep,ho',hd',_⟩,_⟩:=I.loc
 rw [z,ho'] at ho; cases ho; rw [hd'] at hd; cases hd
theorem Inv.funs (I:Inv X pins σ H s):s.heap.FunFrames X.base X.outer:=by
 have all:∀ (l:List Env),(∀ b∈frs l,b∈X.fs)→X.s₀.heap.FunFrames X.base l→s.heap.FunFrames X.base l:=by
  intro l
  induction l with
  | nil=>intro _ _; trivial
  | cons env r ih=>
   intro hs hl
   obtain⟨hk,⟨L,o,hf,hn,ho,hd⟩,hr⟩:=hl
   have hL:L∈X.fs:=hs L (by unfold frs; rw [List.filterMap_cons,hf]; exact List.mem_cons_self)
   obtain⟨sl,e⟩:=I.base.slot L o ho (I.ok.frf L hL) hL fun z=>I.ok.exfs L z hL
   exact⟨hk,⟨L,_,hf,hn,e,hd⟩,ih (fun b hb=>hs b (by unfold frs; rw [List.filterMap_cons,hf]; exact List.mem_cons_of_mem _ hb)) hr⟩
 exact all X.outer (fun _ hb=>hb) I.ok.funs
theorem Inv.stack (I:Inv X pins σ H s):s.heap.FunFrames X.base X.stack:=by
 rcases I.ok.stk with e | ⟨e,hf⟩
 ·rw [e]; exact I.funs
 ·rw [e]
  obtain⟨m,hn,_⟩:=I.loc
  refine .cons (by rw [I.ok.kind]; decide) hf hn ?_ I.funs
  exact Heap.get?_none_of_le (Nat.le_trans I.ok.bsz I.ok.above)
theorem Inv.stkSub (I:Inv X pins σ H s):∀ b∈frs X.stack,b∈X.env.locals::X.fs:=fun b hb=>by
 rcases I.ok.stk with e | ⟨e,hf⟩
 ·rw [e] at hb; exact List.mem_cons_of_mem _ hb
 ·rw [e] at hb
  unfold frs at hb
  rw [List.filterMap_cons,hf] at hb
  exact hb
theorem Inv.stkFree (I:Inv X pins σ H s):∀ b∈frs X.stack,H b=none:=fun b hb=>by
 rcases List.mem_cons.mp (I.stkSub b hb) with e | hb
 ·rw [e]; exact I.free
 ·obtain⟨_,o,ho,_⟩:=I.ok.funs.mem hb
  exact I.base.free b o ho (I.ok.frf b hb) fun z=>I.ok.exfs b z hb
theorem Inv.step {g':Array GenState} {t':Nat} {d':Drawn} {ch:List Addr} (I:Inv X pins σ H s)
  (hch:∀ b∈ch,(b∈X.ex∨X.s₀.heap.objs.size≤b)∧b≠X.env.locals∧(∀ x c,X.env.cells.lookup x=some c→c≠b)∧∀ p∈X.pn++pins,p.1≠b)
  (keep:∀ b o,b≠X.env.locals→b∉X.fs→b∉ch→s.heap.get? b=some o→H b=none→h'.get? b=some o)
  (slot:∀ b o,b≠X.env.locals→b∈X.fs→b∉ch→s.heap.get? b=some o→H b=none→∃ sl,h'.get? b=some {o with slots:=sl}) (free:∀ b o,b∉ch→s.heap.get? b=some o→H b=none→H' b=none)
  (there:∀ b o,b∉ch→s.heap.get? b=some o→∃ o',h'.get? b=some o')
  (tups:∀ b xs,H b=some (.tup xs)→H' b=some (.tup xs)) (frzs:∀ b o u,H b=some (.frz o u)→H' b=some (.frz o u)) (tbls:∀ b ps,H b=some (.tbl ps)→∃ more,H' b=some (.tbl (ps++more)))
  (ns:∀ m,s.heap.Ns X.env.locals m→h'.Ns X.env.locals m) (hok:HOk X.prog X.w H' h') (hg:AllBare g') :
  Inv X pins σ H' {s with heap:=h',gens:=g',drawn:=d',toks:=t'}:=by
 have neL:∀ b o,X.s₀.heap.get? b=some o→b≠X.env.locals:=fun b o e=>Nat.ne_of_lt (Nat.lt_of_lt_of_le (Heap.lt_size e) I.ok.above)
 have neC:∀ b o,X.s₀.heap.get? b=some o→b∉X.ex→b∉ch:=fun b o e hx hb=>by
  rcases(hch b hb).1 with z | z
  ·exact hx z
  ·exact absurd (Nat.lt_of_lt_of_le (Heap.lt_size e) z) (Nat.lt_irrefl _)
 have cellK:∀ x c,X.env.cells.lookup x=some c→∀ v,s.heap.IsCell c v→h'.IsCell c v:=fun x c e v ⟨o,ho,hd⟩=>by
  have nch:c∉ch:=fun z=>(hch c z).2.2.1 x c e rfl
  by_cases hc:c∈X.fs
  ·obtain⟨sl,q⟩:=slot c o (I.cne x c e) hc nch ho (I.freeC x c e)
   exact⟨_,q,hd⟩
  ·exact⟨o,keep c o (I.cne x c e) hc nch ho (I.freeC x c e),hd⟩
 refine⟨I.ok,I.os,hg,⟨fun b o e n hb hx=>?_,fun b o e n hb hx=>?_,fun b o e n hx=>?_,fun b o e hx=>?_,fun b xs e=>tups b xs (I.base.tups b xs e),fun b o xs e=>frzs b o xs (I.base.frzs b o xs e),fun b ps e=>?_⟩,?_,fun x c e=>?_,?_,fun x c e=>?_,fun p hp=>?_,hok,I.len⟩
 ·exact keep b o (neL b o e) hb (neC b o e hx) (I.base.keep b o e n hb hx) (I.base.free b o e n hx)
 ·obtain⟨sl,e1⟩:=I.base.slot b o e n hb hx
  obtain⟨sl',e2⟩:=slot b _ (neL b o e) hb (neC b o e hx) e1 (I.base.free b o e n hx)
  exact⟨sl',e2⟩
 ·obtain⟨o',e1⟩:=I.base.there b o e hx
  exact free b o' (neC b o e hx) e1 (I.base.free b o e n hx)
 ·obtain⟨o',e1⟩:=I.base.there b o e hx
  exact there b o' (neC b o e hx) e1
 ·obtain⟨m1,e1⟩:=I.base.tbls b ps e
  obtain⟨m2,e2⟩:=tbls b _ e1
  exact⟨m1++m2,by rw [e2,Array.append_assoc]⟩
 ·obtain⟨m,hn,hl⟩:=I.loc
  refine⟨m,ns m hn,fun i x v e1 e2 e3=>?_⟩
  obtain⟨u,r,l⟩:=hl i x v e1 e2 e3
  refine⟨u,r,?_⟩
  rcases l with l | ⟨k,c,e,z⟩
  ·exact .inl l
  ·exact .inr ⟨k,c,e,cellK x c e _ z⟩
 ·obtain⟨v,z⟩:=I.cell x c e
  exact⟨v,cellK x c e v z⟩
 ·obtain⟨m,⟨o,_,_,ho,_⟩,_⟩:=I.loc
  exact free _ o (fun z=>(hch _ z).2.1 rfl) ho I.free
 ·obtain⟨v,o,ho,hd⟩:=I.cell x c e
  exact free c o (fun z=>(hch c z).2.2.1 x c e rfl) ho (I.freeC x c e)
 ·obtain⟨e,n,ne,nf,d⟩:=I.pin p hp
  have nch:p.1∉ch:=fun z=>(hch p.1 z).2.2.2 p hp rfl
  exact⟨keep p.1 p.2 ne nf nch e n,free p.1 p.2 nch e n,ne,nf,d⟩
theorem Inv.un {t':Nat} (I:Inv X pins σ H s) (u:Un X.fs [] H H' s.heap h') (hok:HOk X.prog X.w H' h'):Inv X pins σ H' {s with heap:=h',toks:=t'}:=by
 obtain⟨m,⟨o,es,ep,ho,r⟩,_⟩:=id I.loc
 obtain⟨sl,hL⟩:=u.any ho I.free (by simp)
 exact I.step (g':=s.gens) (d':=s.drawn) (ch:=[]) (fun _ z=>nomatch z) (fun b o _ hb _ e n=>u.keep b o e n hb (by simp)) (fun b o _ hb _ e n=>u.slot b o e n hb (by simp)) (fun b o _ e n=>u.free b o e n (by simp)) (fun b o _ e=>u.there b o e (by simp)) u.tups u.frzs u.tbls (fun m' hm=>by
  obtain⟨o',es',ep',ho',r'⟩:=hm
  rw [ho] at ho'; cases ho'
  exact⟨_,es',ep',hL,r'⟩) hok I.bare
theorem Inv.call {g':Array GenState} {t':Nat} {d':Drawn} {ch:List Addr} (I:Inv X pins σ H s) (u:Un (frs X.stack) ch H H' s.heap h') (hok:HOk X.prog X.w H' h') (hg:AllBare g')
  (hch:∀ b∈ch,(b∈X.ex∨X.s₀.heap.objs.size≤b)∧b≠X.env.locals∧(∀ x c,X.env.cells.lookup x=some c→c≠b)∧∀ p∈X.pn++pins,p.1≠b) :
  Inv X pins σ H' {s with heap:=h',gens:=g',drawn:=d',toks:=t'}:=by
 obtain⟨m,⟨o,es,ep,ho,r⟩,_⟩:=id I.loc
 obtain⟨sl,hL⟩:=u.any ho I.free fun z=>(hch _ z).2.1 rfl
 exact I.step (ch:=ch) hch (fun b o hL hb hc e n=>u.keep b o e n (fun z=>(List.mem_cons.mp (I.stkSub b z)).elim hL hb) hc) (fun b o _ _ hc e n=>u.any e n hc) (fun b o hc e n=>u.free b o e n hc) (fun b o hc e=>u.there b o e hc) u.tups u.frzs u.tbls (fun m' hm=>by
  obtain⟨o',es',ep',ho',r'⟩:=hm
  rw [ho] at ho'; cases ho'
  exact⟨_,es',ep',hL,r'⟩) hok hg
theorem Inv.turned {t':Nat} {it:Addr} (I:Inv X pins σ H s) (k:∀ b o,b≠it→s.heap.get? b=some o→h'.get? b=some o) (hn:H it=none) (hL:it≠X.env.locals)
  (h1:it∈X.ex∨X.s₀.heap.objs.size≤it) (h2:∀ x c,X.env.cells.lookup x=some c→c≠it) (h3:∀ p∈X.pn++pins,p.1≠it):Inv X pins σ H {s with heap:=h',toks:=t'}:=by
 have nit:∀ b u,H b=some u→b≠it:=fun b u e z=>by rw [z,hn] at e; cases e
 refine I.step (g':=s.gens) (d':=s.drawn) (ch:=[it]) (fun b hb=>?_) (fun b o _ _ hc e _=>k b o (fun z=>hc (by simp [z])) e) (fun b o _ _ hc e _=>⟨o.slots,k b o (fun z=>hc (by simp [z])) e⟩) (fun _ _ _ _ n=>n)
  (fun b o hc e=>⟨o,k b o (fun z=>hc (by simp [z])) e⟩) (fun _ _ e=>e) (fun _ _ _ e=>e) (fun b ps e=>⟨#[],by rw [e]; simp⟩) (fun m hm=>?_) (fun b u e=>?_) I.bare
 ·have e:b=it:=by simpa using hb
  subst e
  exact⟨h1,hL,h2,h3⟩
 ·obtain⟨o,es,ep,ho,r⟩:=hm
  exact⟨o,es,ep,k _ o (Ne.symm hL) ho,r⟩
 ·refine(I.hok b u e).stay (fun c v hc q=>k c v ?_ q) (fun _ q=>q) fun _ _ q=>q
  rcases hc with z | z
  ·rw [z]; exact nit b u e
  ·exact nit c _ z
theorem Inv.tok (I:Inv X pins σ H s) (t:Nat):Inv X pins σ H {s with toks:=t}:=I.un (h':=s.heap) (t':=t) Un.refl I.hok
theorem Inv.kept {t':Nat} (I:Inv X pins σ H s) (k:∀ b u,s.heap.get? b=some u→h'.get? b=some u):Inv X pins σ H {s with heap:=h',toks:=t'}:=I.un (Un.kept k) (I.hok.kept k)
theorem Inv.laid {a:Addr} {o:HO} {t':Nat} (I:Inv X pins σ H s) (k:∀ b u,s.heap.get? b=some u→h'.get? b=some u) (hp:s.heap.objs.size≤a) (new:bh X.prog X.w (upd H a o) h' a o) :
  Inv X pins σ (upd H a o) {s with heap:=h',toks:=t'}:=I.un (Un.laid k hp (I.hok.fresh hp)) (I.hok.laid k hp new)
theorem Inv.write {x e:Addr} {o:HO} {t':Nat} (I:Inv X pins σ H s) (mu:Mut (H x)) (he:e=x∨H e=some (.own x)) (k:∀ b u,b≠e→s.heap.get? b=some u→h'.get? b=some u) (heo:∃ u,h'.get? e=some u)
  (new:bh X.prog X.w (upd H x o) h' x o):Inv X pins σ (upd H x o) {s with heap:=h',toks:=t'}:=I.un (Un.write mu he k heo) (I.hok.write mu he k heo new)
theorem Inv.pins_of {pins':List (Addr×Obj)} (I:Inv X pins σ H s) (h:∀ p∈pins',s.heap.get? p.1=some p.2∧H p.1=none∧p.1≠X.env.locals∧p.1∉X.fs∧∀ v,p.2.data≠.cell v):Inv X pins' σ H s:=
 ⟨I.ok,I.os,I.bare,I.base,I.loc,I.cell,I.free,I.freeC,fun p hp=>(List.mem_append.mp hp).elim (fun z=>I.pin p (List.mem_append_left _ z)) (h p),I.hok,I.len⟩
theorem jg {N:List Str} (hN:N.Nodup) {i j:Nat} {x:Str} (a:N[i]? = some x) (b:N[j]? = some x):i=j:=by
 obtain⟨h1,e1⟩:=List.getElem?_eq_some_iff.mp a
 obtain⟨h2,e2⟩:=List.getElem?_eq_some_iff.mp b
 exact(List.getElem_inj hN).mp (e1.trans e2.symm)
theorem fM {M:Model} {A:Around} {E:Value→Shared→Prop} {i:Nat} {x:Str} {v:V} {u:Value} {Q:Unit→Shared→Prop} (I:Inv X pins σ H s) (hN:X.N.Nodup) (hi:X.N[i]? = some x) (hx:Loc X.env.scope x) (r:aM v u)
  (h:∀ s',Inv X pins (σ.set i (some v)) H s'→(∃ a,Heap.SameBut a s.heap s'.heap∧(a=X.env.locals∨X.env.cells.lookup x=some a))→Q () s') (hf:X.fn x=true∨X.env.scope.names.lookup x=some .local:=by first | exact .inl rfl | exact .inr rfl | assumption):wpAny M A (storeName X.env x u) Q E s:=by
 obtain⟨m,hn,hl⟩:=id I.loc
 have hcls:(X.env.scope.kind==.class||(X.env.scope.kind==.module&&X.env.locals != X.env.globals))=false:=by rw [I.ok.kind]; rfl
 have hiσ:i<σ.length:=by rw [I.len]; exact(List.getElem?_eq_some_iff.mp hi).1
 have cne:=I.cne
 have tracked:∀ {a:Addr} {h':Heap},(∃ o,s.heap.get? a=some o∧H a=none)→Heap.SameBut a s.heap h'→HOk X.prog X.w H h':=fun {a h'} ha hs b ob e=>by
  obtain⟨_,_,hfree⟩:=ha
  refine(I.hok b ob e).stay (fun c w' hc q=>(hs.2 c ?_).trans q) (fun _ q=>q) fun _ _ q=>q
  rintro rfl
  rcases hc with rfl | hc
  ·rw [hfree] at e; cases e
  ·rw [hfree] at hc; cases hc
 rcases hx with hk | hk
 ·refine wpAny_storeName_local hk hn (fun h' hn' hs=>?_) hcls
  obtain⟨oL,_,_,hoL,_⟩:=id hn
  refine h _ ⟨I.ok,I.os,I.bare,⟨fun b o e n hb hx=>?_,fun b o e n hb hx=>?_,I.base.free,fun b o e hx=>?_,I.base.tups,I.base.frzs,I.base.tbls⟩,⟨_,hn',fun j y v' e1 e2 e3=>?_⟩,fun y c e=>?_,I.free,I.freeC,fun p hp=>?_,tracked ⟨oL,hoL,I.free⟩ hs,by simpa using I.len⟩ ⟨_,hs,.inl rfl⟩
  ·exact(hs.2 b (Nat.ne_of_lt (Nat.lt_of_lt_of_le (Heap.lt_size e) I.ok.above))).trans (I.base.keep b o e n hb hx)
  ·obtain⟨sl,e1⟩:=I.base.slot b o e n hb hx
   exact⟨sl,(hs.2 b (Nat.ne_of_lt (Nat.lt_of_lt_of_le (Heap.lt_size e) I.ok.above))).trans e1⟩
  ·obtain⟨o',e1⟩:=I.base.there b o e hx
   exact⟨o',(hs.2 b (Nat.ne_of_lt (Nat.lt_of_lt_of_le (Heap.lt_size e) I.ok.above))).trans e1⟩
  ·by_cases hj:j=i
   ·subst hj
    rw [hi] at e1; cases e1
    rw [List.getElem?_set_self hiσ] at e2
    cases e2
    exact⟨u,r,.inl ⟨hk,by simp⟩⟩
   ·rw [List.getElem?_set_ne (Ne.symm hj)] at e2
    obtain⟨u',r',q⟩:=hl j y v' e1 e2 e3
    refine⟨u',r',?_⟩
    rcases q with ⟨k,e⟩ | ⟨k,c,e,z⟩
    ·refine .inl ⟨k,?_⟩
     have : y≠x:=fun e=>hj (jg hN e1 (e▸hi))
     simp [this,e]
    ·exact .inr ⟨k,c,e,z.sameBut hs (cne y c e)⟩
  ·obtain⟨w',z⟩:=I.cell y c e
   exact⟨w',z.sameBut hs (cne y c e)⟩
  ·obtain⟨e,n,ne,nf,d⟩:=I.pin p hp
   exact⟨(hs.2 p.1 ne).trans e,n,ne,nf,d⟩
 ·have hfn:X.fn x=true:=by
   rcases hf with z | z
   ·exact z
   ·rw [z] at hk; cases hk
  obtain⟨c,hc⟩:=I.ok.has x (.inl hk)
  obtain⟨w',z⟩:=I.cell x c hc
  refine wpAny_storeName_cell I.ok.kind hk hc z (fun h' hc' hs=>?_)
  obtain⟨oc,hoc,hocd⟩:=id z
  refine h {s with heap:=h'} ⟨I.ok,I.os,I.bare,⟨fun b o e n hb hx=>?_,fun b o e n hb hx=>?_,I.base.free,fun b o e hx=>?_,I.base.tups,I.base.frzs,I.base.tbls⟩,⟨m,hn.sameBut hs (Ne.symm (cne x c hc)),fun j y v' e1 e2 e3=>?_⟩,fun y c' e=>?_,I.free,I.freeC,fun p hp=>?_,tracked ⟨oc,hoc,I.freeC x c hc⟩ hs,by simpa using I.len⟩ ⟨c,hs,.inr hc⟩
  ·exact(hs.2 b (Nat.ne_of_lt (Nat.lt_of_lt_of_le (Heap.lt_size e) (I.ok.cab x c hfn hc)))).trans (I.base.keep b o e n hb hx)
  ·obtain⟨sl,e1⟩:=I.base.slot b o e n hb hx
   exact⟨sl,(hs.2 b (Nat.ne_of_lt (Nat.lt_of_lt_of_le (Heap.lt_size e) (I.ok.cab x c hfn hc)))).trans e1⟩
  ·obtain⟨o',e1⟩:=I.base.there b o e hx
   exact⟨o',(hs.2 b (Nat.ne_of_lt (Nat.lt_of_lt_of_le (Heap.lt_size e) (I.ok.cab x c hfn hc)))).trans e1⟩
  ·by_cases hj:j=i
   ·subst hj
    rw [hi] at e1; cases e1
    rw [List.getElem?_set_self hiσ] at e2
    cases e2
    exact⟨u,r,.inr ⟨.inl hk,c,hc,hc'⟩⟩
   ·rw [List.getElem?_set_ne (Ne.symm hj)] at e2
    obtain⟨u',r',q⟩:=hl j y v' e1 e2 e3
    refine⟨u',r',?_⟩
    rcases q with q | ⟨k,c',e,z'⟩
    ·exact .inl q
    ·refine .inr ⟨k,c',e,z'.sameBut hs ?_⟩
     rintro rfl
     exact hj (jg hN e1 (I.ok.inj _ _ _ e hc▸hi))
  ·by_cases hcc:c'=c
   ·subst hcc; exact⟨_,hc'⟩
   ·obtain⟨w2,z2⟩:=I.cell y c' e
    exact⟨w2,z2.sameBut hs hcc⟩
  ·obtain⟨e,n,ne,nf,d⟩:=I.pin p hp
   refine⟨(hs.2 p.1 ?_).trans e,n,ne,nf,d⟩
   intro q
   rw [q,hoc] at e
   have q':oc=p.2:=Option.some.inj e
   exact d w' (by rw [← q']; exact hocd)
theorem fi {M:Model} {A:Around} {E:Value→Shared→Prop} {i:Nat} {x:Str} {v:V} {u:Value} {Q:Unit→Shared→Prop} (I:Inv X pins σ H s) (hN:X.N.Nodup) (hi:X.N[i]? = some x) (hx:Loc X.env.scope x) (r:aM v u)
  (h:∀ s',Inv X pins (σ.set i (some v)) H s'→Q () s') (hf:X.fn x=true∨X.env.scope.names.lookup x=some .local:=by first | exact .inl rfl | exact .inr rfl | assumption):wpAny M A (storeName X.env x u) Q E s:=
 fM I hN hi hx r (fun s' I' _=>h s' I') hf
theorem Inv.call' {s':Shared} {ch:List Addr} (I:Inv X pins σ H s) (ho:s'.os=s.os) (u:Un (frs X.stack) ch H H' s.heap s'.heap) (hok:HOk X.prog X.w H' s'.heap) (hg:AllBare s'.gens)
  (hch:∀ b∈ch,(b∈X.ex∨X.s₀.heap.objs.size≤b)∧b≠X.env.locals∧(∀ x c,X.env.cells.lookup x=some c→c≠b)∧∀ p∈X.pn++pins,p.1≠b):Inv X pins σ H' s':=by
 obtain⟨h',g',d',t',o'⟩:=s'
 have e:o'=s.os:=ho
 subst e
 exact I.call (g':=g') (t':=t') (d':=d') u hok hg hch
end
abbrev XK:=Value→Option Addr→Hp→Prop
abbrev St:=List (Option V)
abbrev VK:=V→Hp→Prop
abbrev TE:=St→Hp→VK→Prop
abbrev TT:=St→Hp→(Bool→Hp→Prop)→Prop
abbrev TA:=St→Hp→(List V→Hp→Prop)→Prop
structure jD where
 nx:St→Hp→Prop
 rt:VK
 bk:St→Hp→Prop:=fun _ _=>False
 ct:St→Hp→Prop:=fun _ _=>False
abbrev TS:=jD→St→Hp→Prop
def EP (X:Cx) (pins:List (Addr×Obj)) (σ:St) (Q:VK) (u:Value) (s':Shared):Prop:=∃ v H',Inv X pins σ H' s'∧aM v u∧Q v H'
def TP (X:Cx) (pins:List (Addr×Obj)) (σ:St) (Q:Bool→Hp→Prop) (b:Bool) (s':Shared):Prop:=∃ H',Inv X pins σ H' s'∧Q b H'
def AP (X:Cx) (pins:List (Addr×Obj)) (σ:St) (Q:List V→Hp→Prop) (us:List Value) (s':Shared):Prop:=∃ vs H',Inv X pins σ H' s'∧aI vs us∧Q vs H'
def SP (X:Cx) (pins:List (Addr×Obj)) (D:jD) (f:Flow) (s':Shared):Prop:=
 match f with
 | .next=>∃ σ' H',Inv X pins σ' H' s'∧D.nx σ' H'
 | .brk=>∃ σ' H',Inv X pins σ' H' s'∧D.bk σ' H'
 | .cont=>∃ σ' H',Inv X pins σ' H' s'∧D.ct σ' H'
 | .ret u=>∃ v σ' H',Inv X pins σ' H' s'∧aM v u∧D.rt v H'
def PE (X:Cx) (e:Expr) (t:TE):Prop:=
 ∀ (pins:List (Addr×Obj)) (s:Shared) (σ:St) (H:Hp) (Q:VK),Inv X pins σ H s→t σ H Q→wpAny (model X.prog X.w) X.A (eval e X.env) (EP X pins σ Q) X.xe s
def PT (X:Cx) (e:Expr) (t:TT):Prop:=
 ∀ (pins:List (Addr×Obj)) (s:Shared) (σ:St) (H:Hp) (Q:Bool→Hp→Prop),Inv X pins σ H s→t σ H Q→wpAny (model X.prog X.w) X.A (isTrue e X.env (eval e X.env)) (TP X pins σ Q) X.xe s
def PW (X:Cx) (e:Expr) (t:TT):Prop:=
 ∀ (whole:Sem Value) (pins:List (Addr×Obj)) (s:Shared) (σ:St) (H:Hp) (Q:Bool→Hp→Prop),Inv X pins σ H s→t σ H Q→wpAny (model X.prog X.w) X.A (isTrue e X.env whole) (TP X pins σ Q) X.xe s
theorem PW.pt {X:Cx} {e:Expr} {t:TT} (h:PW X e t):PT X e t:=h _
def PA (X:Cx) (es:List Expr) (t:TA):Prop:=
 ∀ (pos:Pos) (pins:List (Addr×Obj)) (s:Shared) (σ:St) (H:Hp) (Q:List V→Hp→Prop),Inv X pins σ H s→t σ H Q→wpAny (model X.prog X.w) X.A (spliced (backTo pos (starEach es X.env))) (AP X pins σ Q) X.xe s
def PS (X:Cx) (st:Stmt) (t:TS):Prop:=
 ∀ (pins:List (Addr×Obj)) (s:Shared) (σ:St) (H:Hp) (D:jD),Inv X pins σ H s→t D σ H→wpAny (model X.prog X.w) X.A (exec st X.env) (SP X pins D) X.xe s
def PSs (X:Cx) (st:List Stmt) (t:TS):Prop:=
 ∀ (pins:List (Addr×Obj)) (s:Shared) (σ:St) (H:Hp) (D:jD),Inv X pins σ H s→t D σ H→wpAny (model X.prog X.w) X.A (execs st X.env) (SP X pins D) X.xe s
theorem thn {α:Type} {t:Sem α} {Q Q':α→Shared→Prop} {M:Model} {A:Around} {E:Value→Shared→Prop} {s:Shared} (h:wpAny M A t Q E s) (hQ:∀ a s,Q a s→Q' a s):wpAny M A t Q' E s:=wpAny_mono h hQ fun _ _ x=>x
section
variable {X:Cx}
def pV (i:Nat):TE:=fun σ H Q=>∃ v,σ[i]? = some (some v)∧Q v H
def tC (v:V):TE:=fun _ H Q=>Q v H
theorem wH {i:Nat} {x:Str} {pos:Pos} (hN:X.N[i]? = some x) (hv:Vis X.env.scope x) (hd:(x==("__debug__":Str))=false:=by decide) (hcd:(x==("__classdict__":Str))=false:=by decide):PE X (.Name x pos) (pV i):=by
 intro pins s σ H Q I h
 obtain⟨v,e,h⟩:=h
 obtain⟨m,hn,hl⟩:=I.loc
 obtain⟨u,r,l⟩:=hl i x v hN e hv
 have fin:EP X pins σ Q u s:=⟨v,H,I,r,h⟩
 rcases l with ⟨hk,hm⟩ | ⟨hk,c,hc,hcell⟩
 ·exact wpAny_Name (wpAny_loadName_local I.ok.kind hk hn hm fin) hd
 ·rcases hk with hk | hk
  ·exact wpAny_Name (wpAny_loadName_cell I.ok.kind hk hc hcell fin) hd
  ·exact wpAny_Name (wpAny_loadName_free I.ok.kind hk hc hcell fin hcd) hd
theorem aq {i j pos}:PE X (.Constant (.int i) j pos) (tC (.int i)):=fun _ _ _ H _ I h=>wpAny_Constant_int ⟨.int i,H,I.tok _,⟨_,rfl⟩,h⟩
theorem gE {b j pos}:PE X (.Constant (.bool b) j pos) (tC (.bl b)):=fun _ _ _ H _ I h=>Constant_bool ⟨.bl b,H,I,rfl,h⟩
theorem rN {j pos}:PE X (.Constant .none j pos) (tC .non):=fun _ _ _ H _ I h=>Constant_none ⟨.non,H,I,rfl,h⟩
theorem gh {x j pos}:PE X (.Constant (.str x) j pos) (tC (.str x)):=fun _ _ _ H _ I h=>Calls.Constant_str ⟨.str x,H,I.tok _,⟨_,rfl⟩,h⟩
def Gl (X:Cx) (x:Str):Prop:=X.env.kindOf x=some .globalImplicit
theorem fP {E:Value→Shared→Prop} {pins:List (Addr×Obj)} {s:Shared} {σ:St} {H:Hp} {x:Str} {u:Value} {pos:Pos} {Q:Value→Shared→Prop} (I:Inv X pins σ H s) (hg:Gl X x) (hm:X.mg x=some u) (h:Q u s)
  (hd:(x==("__debug__":Str))=false:=by decide):wpAny (model X.prog X.w) X.A (eval (.Name x pos) X.env) Q E s:=
 Calls.Name_function_global I.ok.kind hg (Calls.loadGlobal_global (by rw [I.ok.glob]; exact I.mod.glob.keeps I.bk) hm h) hd
theorem fC {E:Value→Shared→Prop} {pins:List (Addr×Obj)} {s:Shared} {σ:St} {H:Hp} {x:Str} {u:Value} {pos:Pos} {Q:Value→Shared→Prop} (I:Inv X pins σ H s) (hg:Gl X x) (hm:X.mg x=none) (hv:bootBuiltins x=some u) (h:Q u s)
  (hn:x≠"__name__":=by decide) (hd:(x==("__debug__":Str))=false:=by decide):wpAny (model X.prog X.w) X.A (eval (.Name x pos) X.env) Q E s:=by
 obtain⟨mb,h1,h2⟩:=I.mod.blt
 exact Calls.Name_function_global I.ok.kind hg (Calls.loadGlobal_builtin (by rw [I.ok.glob]; exact I.mod.glob.keeps I.bk) hm (by rw [I.ok.blt]; exact h1.keeps I.bk) ((h2 x hn).trans hv) h) hd
theorem bJ {x:Str} {v:V} {u:Value} {pos:Pos} (hg:Gl X x) (hm:X.mg x=some u) (r:aM v u) (hd:(x==("__debug__":Str))=false:=by decide):PE X (.Name x pos) (tC v):=
 fun _ _ _ H _ I h=>fP I hg hm ⟨v,H,I,r,h⟩ hd
theorem dS {x:Str} {v:V} {u:Value} {pos:Pos} (hg:Gl X x) (hm:X.mg x=none) (hv:bootBuiltins x=some u) (r:aM v u) (hn:x≠"__name__":=by decide) (hd:(x==("__debug__":Str))=false:=by decide):PE X (.Name x pos) (tC v):=
 fun _ _ _ H _ I h=>fC I hg hm hv ⟨v,H,I,r,h⟩ hn hd
variable {a b:Expr} {ta tb:TE} {pos:Pos}
def tB (t:TE):TT:=fun σ H Q=>t σ H fun x H1=>∃ c,x=.bl c∧Q c H1
theorem cA {e:Expr} {t:TE} (h:PE X e t) (he:∀ whole,isTrue e X.env whole=(do let v ← whole; standAt e.pos; holding [v] (truthy v)):=by intro _; rfl):PT X e (tB t):=by
 intro pins s σ H Q I hw
 refine isTrue_plain (thn (h pins s σ H _ I hw) fun v s1 ⟨x,H1,I1,r1,q1⟩=>?_) (he _)
 obtain⟨d,rfl,q⟩:=q1
 cases r1
 exact wpAny_truthy_bool ⟨H1,I1,q⟩
variable {tA tB':TT} {rest:List Expr}
def tOr (t u:TT):TT:=fun σ H Q=>t σ H fun c H1=>if c=true then Q true H1 else u σ H1 Q
def yJ (t:TT):TT:=fun σ H Q=>t σ H fun c H1=>Q (!c) H1
theorem dL (ha:PT X a tA):PW X (.BoolOp .Or [a] pos) tA:=by
 intro wh pins s σ H Q I h
 refine isTrue_or (thn (ha pins s σ H Q I h) fun c s1 e=>?_)
 cases c with
 | false=>exact isTrue_or_nil e
 | true=>exact e
theorem eV (ha:PT X a tA) (hb:PW X (.BoolOp .Or (b::rest) pos) tB'):PW X (.BoolOp .Or (a::b::rest) pos) (tOr tA tB'):=by
 intro wh pins s σ H Q I h
 refine isTrue_or (thn (ha pins s σ H _ I h) fun c s1 ⟨H1,I1,q1⟩=>?_)
 cases c with
 | true=>exact⟨H1,I1,q1⟩
 | false=>exact hb wh pins s1 σ H1 Q I1 q1
theorem cf (ha:PT X a tA):PT X (.UnaryOp .Not a pos) (yJ tA):=by
 intro pins s σ H Q I h
 exact isTrue_not (ha pins s σ H (fun c H1=>Q (!c) H1) I h)
def xI (ta tb:TE):TE:=fun σ H Q=>ta σ H fun x H1=>∃ c,x=.bl c∧if c=true then tb σ H1 Q else Q (.bl false) H1
def xx (ta:TE):TE:=fun σ H Q=>ta σ H fun x H1=>∃ c,x=.bl c∧Q (.bl (!c)) H1
theorem nJ {op} {t:TE} (h:PE X a t):PE X (.BoolOp op [a] pos) t:=fun pins s σ H Q I hw=>BoolOp_one (h pins s σ H Q I hw)
theorem jc (ha:PE X a ta) (hb:PE X (.BoolOp .And (b::rest) pos) tb):PE X (.BoolOp .And (a::b::rest) pos) (xI ta tb):=by
 intro pins s σ H Q I h
 refine BoolOp_and (thn (ha pins s σ H _ I h) fun v s1 ⟨x,H1,I1,r1,q1⟩=>?_)
 obtain⟨c,rfl,q1⟩:=q1
 cases r1
 refine wpAny_truthy_bool ?_
 cases c with
 | true=>exact hb pins s1 σ H1 Q I1 q1
 | false=>exact⟨.bl false,H1,I1,rfl,q1⟩
theorem rM (ha:PE X a ta):PE X (.UnaryOp .Not a pos) (xx ta):=by
 intro pins s σ H Q I h
 refine UnaryOp_ (thn (ha pins s σ H _ I h) fun v s1 ⟨x,H1,I1,r1,q1⟩=>?_)
 obtain⟨c,rfl,q1⟩:=q1
 cases r1
 exact not_of (wpAny_truthy_bool ⟨.bl (!c),H1,I1,rfl,q1⟩)
end
def SqL (K:PySem.W.Frag) (H:Hp) (a:Addr) (xs:List V):Prop:=
 Rd H a (.lst xs)∨
  ∃ (o:Obj) (its:Array Value) (n:Nat),K.lookup a=some o∧o.cls=.type "list"∧o.dict=none∧o.data=.seq its n∧its.size≤sizeLine∧aI xs its.toList
def SqT (K:PySem.W.Frag) (H:Hp) (a:Addr) (xs:List V):Prop:=
 Rd H a (.tup xs)∨
  ∃ (o:Obj) (its:Array Value) (n:Nat),K.lookup a=some o∧o.cls=.type "tuple"∧o.data=.seq its n∧its.size≤sizeLine∧aI xs its.toList
def zc:Value→Option V
 | .none=>some .non
 | .bool b=>some (.bl b)
 | .int i _=>some (.int i)
 | .str x _=>some (.str x)
 | .bytes b _=>some (.byt b)
 | .float b _=>some (.flt b)
 | .ref a=>some (.ref a)
 | .type n=>some (.ty n)
 | _=>none
theorem aM.abs {x:V} {u:Value} (r:aM x u):zc u=some x:=by
 cases x with
 | non=>cases r; rfl
 | bl _=>cases r; rfl
 | int _=>obtain⟨t,rfl⟩:=r; rfl
 | str _=>obtain⟨t,rfl⟩:=r; rfl
 | byt _=>obtain⟨t,rfl⟩:=r; rfl
 | flt _=>obtain⟨t,rfl⟩:=r; rfl
 | ref _=>cases r; rfl
 | ty _=>cases r; rfl
theorem aM.inj {x y:V} {u:Value} (r:aM x u) (q:aM y u):x=y:=Option.some.inj (r.abs.symm.trans q.abs)
theorem aI.inj:∀ {xs ys:List V} {us:List Value},aI xs us→aI ys us→xs=ys
 | _,_,_,.nil,.nil=>rfl
 | _,_,_,.cons r t,.cons r' t'=>by rw [r.inj r',aI.inj t t']
section
variable {X:Cx} {pins:List (Addr×Obj)} {σ:St} {H:Hp} {s:Shared} {a:Addr} {xs ys:List V}
theorem SqL.of {K:PySem.W.Frag} (h:H a=some (.lst xs)):SqL K H a xs:=.inl (.inl h)
theorem SqT.of {K:PySem.W.Frag} (h:H a=some (.tup xs)):SqT K H a xs:=.inl (.inl h)
theorem Inv.list (I:Inv X pins σ H s) (h:SqL X.K H a xs):∃ its:List Value,aI xs its∧PlainL s.heap a its.toArray∧xs.length≤sizeLine:=by
 rcases h with h | ⟨o,its,n,hk,hc,hd,hs,hz,r⟩
 ·obtain⟨z,its,n,r,e⟩:=h.ok I.hok
  exact⟨its,r,⟨_,n,e,rfl,rfl,rfl⟩,z⟩
 ·refine⟨its.toList,r,⟨o,n,I.kIn a o hk,hc,hd,by simpa using hs⟩,?_⟩
  have e:=r.length
  simp only [Array.length_toList] at e
  omega
theorem Inv.tuple (I:Inv X pins σ H s) (h:SqT X.K H a xs):∃ its:List Value,aI xs its∧IsTup s.heap a its.toArray∧xs.length≤sizeLine:=by
 rcases h with h | ⟨o,its,n,hk,hc,hs,hz,r⟩
 ·obtain⟨z,its,r,p⟩:=h.ok I.hok
  exact⟨its,r,p,z⟩
 ·refine⟨its.toList,r,⟨o,I.kIn a o hk,hc,n,by simpa using hs⟩,?_⟩
  have e:=r.length
  simp only [Array.length_toList] at e
  omega
theorem Inv.list_inj (I:Inv X pins σ H s) (h:SqL X.K H a xs) (h':SqL X.K H a ys):xs=ys:=by
 obtain⟨its,r,⟨o,n,e,_,_,d⟩,_⟩:=I.list h
 obtain⟨its',r',⟨o',n',e',_,_,d'⟩,_⟩:=I.list h'
 rw [e] at e'; cases e'
 rw [d] at d'
 injection d' with d1 _
 have : its=its':=by simpa using congrArg Array.toList d1
 subst this
 exact r.inj r'
theorem Inv.tuple_inj (I:Inv X pins σ H s) (h:SqT X.K H a xs) (h':SqT X.K H a ys):xs=ys:=by
 obtain⟨its,r,⟨o,e,_,n,d⟩,_⟩:=I.tuple h
 obtain⟨its',r',⟨o',e',_,n',d'⟩,_⟩:=I.tuple h'
 rw [e] at e'; cases e'
 rw [d] at d'
 injection d' with d1 _
 have : its=its':=by simpa using congrArg Array.toList d1
 subst this
 exact r.inj r'
end
abbrev Cx.wish (X:Cx) (E:Value→Shared→Prop):Cx:={X with xe:=E}
abbrev Cx.nox (X:Cx):Cx:=X.wish fun _ _=>False
theorem Cx.Ok.wish {X:Cx} (ok:X.Ok) (E:Value→Shared→Prop):(X.wish E).Ok:=
 ⟨ok.mod,ok.kind,ok.glob,ok.blt,ok.above,ok.inj,ok.has,ok.cab,ok.hd,ok.frames,ok.stk,ok.exf,ok.bs,ok.bsz,ok.noex,ok.exfs,ok.funs,ok.frf⟩
theorem Cx.Ok.unwish {X:Cx} {E:Value→Shared→Prop} (ok:(X.wish E).Ok):X.Ok:=
 ⟨ok.mod,ok.kind,ok.glob,ok.blt,ok.above,ok.inj,ok.has,ok.cab,ok.hd,ok.frames,ok.stk,ok.exf,ok.bs,ok.bsz,ok.noex,ok.exfs,ok.funs,ok.frf⟩
section
variable {X:Cx} {pins:List (Addr×Obj)} {σ:St} {H:Hp} {s:Shared} {E:Value→Shared→Prop}
theorem Inv.wish (I:Inv X pins σ H s) (E:Value→Shared→Prop):Inv (X.wish E) pins σ H s:=⟨I.ok.wish E,I.os,I.bare,I.base,I.loc,I.cell,I.free,I.freeC,I.pin,I.hok,I.len⟩
theorem Inv.unwish (I:Inv (X.wish E) pins σ H s):Inv X pins σ H s:=⟨I.ok.unwish,I.os,I.bare,I.base,I.loc,I.cell,I.free,I.freeC,I.pin,I.hok,I.len⟩
theorem SP.unwish {D:jD} {f:Flow} {s':Shared} (h:SP (X.wish E) pins D f s'):SP X pins D f s':=by
 cases f with
 | next=>obtain⟨σ',H',I,q⟩:=h; exact⟨σ',H',I.unwish,q⟩
 | brk=>obtain⟨σ',H',I,q⟩:=h; exact⟨σ',H',I.unwish,q⟩
 | cont=>obtain⟨σ',H',I,q⟩:=h; exact⟨σ',H',I.unwish,q⟩
 | ret u=>obtain⟨v,σ',H',I,r,q⟩:=h; exact⟨v,σ',H',I.unwish,r,q⟩
theorem PE.nox {e:Expr} {t:TE} (h:PE X.nox e t):PE X e t:=fun pins s σ H Q I hw=>
 wpAny_mono (h pins s σ H Q (I.wish _) hw) (fun _ _ ⟨v,H',I',r,q⟩=>⟨v,H',I'.unwish,r,q⟩) fun _ _ z=>False.elim z
theorem PT.nox {e:Expr} {t:TT} (h:PT X.nox e t):PT X e t:=fun pins s σ H Q I hw=>
 wpAny_mono (h pins s σ H Q (I.wish _) hw) (fun _ _ ⟨H',I',q⟩=>⟨H',I'.unwish,q⟩) fun _ _ z=>False.elim z
theorem PSs.nox {st:List Stmt} {t:TS} (h:PSs X.nox st t):PSs X st t:=fun pins s σ H D I hw=>
 wpAny_mono (h pins s σ H D (I.wish _) hw) (fun _ _ q=>q.unwish) fun _ _ z=>False.elim z
end
section
variable {X:Cx} {st:Stmt} {rest:List Stmt} {t u:TS} {e:Expr} {te:TE} {pos:Pos}
def xy:TS:=fun D σ H=>D.nx σ H
def wk (t u:TS):TS:=fun D σ H=>t {D with nx:=u D} σ H
theorem bq:PSs X [] xy:=fun _ _ σ H _ I h=>wpAny_execs_nil ⟨σ,H,I,h⟩
theorem ak (h1:PS X st t) (h2:PSs X rest u):PSs X (st::rest) (wk t u):=by
 intro pins s σ H D I h
 refine wpAny_execs_cons (thn (h1 pins s σ H {D with nx:=u D} I h) fun f s1 q=>?_)
 cases f with
 | next=>
  obtain⟨σ',H',I',q⟩:=q
  exact h2 pins s1 σ' H' D I' q
 | ret v=>exact q
 | brk=>exact q
 | cont=>exact q
theorem am (h1:PS X st t):PSs X [st] t:=by
 intro pins s σ H D I h
 refine wpAny_execs_cons (thn (h1 pins s σ H D I h) fun f s1 q=>?_)
 cases f with
 | next=>exact wpAny_execs_nil q
 | ret v=>exact q
 | brk=>exact q
 | cont=>exact q
theorem Inv.quiet {pins:List (Addr×Obj)} {σ:St} {H:Hp} {s:Shared} (I:Inv X pins σ H s):interactive X.env=false:=by simp [interactive,I.ok.kind]
def xD (te:TE):TS:=fun D σ H=>te σ H fun _ H1=>D.nx σ H1
theorem cZ (he:PE X e te) (hs:swapsWith e none pos.line X.env=pure false:=by rfl):PS X (.Expr e pos) (xD te):=by
 intro pins s σ H D I h
 exact wpAny_Expr_any (thn (he pins s σ H _ I h) fun v s1 ⟨x,H1,I1,r1,q1⟩=>⟨σ,H1,I1,q1⟩) I.quiet hs
def yI (te:TE):TS:=fun D σ H=>te σ H D.rt
theorem aO (he:PE X e te):PS X (.Return (some e) pos) (yI te):=by
 intro pins s σ H D I h
 exact wpAny_Return_some (thn (he pins s σ H _ I h) fun v s1 ⟨x,H1,I1,r1,q1⟩=>⟨x,σ,H1,I1,r1,q1⟩)
def yK (c:TT) (t u:TS):TS:=fun D σ H=>c σ H fun b H1=>if b=true then t D σ H1 else u D σ H1
theorem cy {c:Expr} {a b:List Stmt} {tc:TT} (hc:PT X c tc) (ha:PSs X a t) (hb:PSs X b u):PS X (.If c a b pos) (yK tc t u):=by
 intro pins s σ H D I h
 refine wpAny_If (thn (hc pins s σ H _ I h) fun d s1 ⟨H1,I1,q1⟩=>?_)
 cases d with
 | true=>exact ha pins s1 σ H1 D I1 q1
 | false=>exact hb pins s1 σ H1 D I1 q1
def wm:TS:=fun _ _ _=>False
theorem cE:PS X st wm:=fun _ _ _ _ _ _ h=>h.elim
end
abbrev TG:=V→St→Hp→(St→Hp→Prop)→Prop
abbrev TGs:=List V→St→Hp→(St→Hp→Prop)→Prop
def PG (X:Cx) (target:Expr) (t:TG):Prop:=
 ∀ (pins:List (Addr×Obj)) (s:Shared) (σ:St) (H:Hp) (v:V) (u:Value) (Q:St→Hp→Prop),Inv X pins σ H s→aM v u→t v σ H Q→
  wpAny (model X.prog X.w) X.A (assign target X.env u) (fun _ s'=>∃ σ' H',Inv X pins σ' H' s'∧Q σ' H') X.xe s
def PGs (X:Cx) (ts:List Expr) (t:TGs):Prop:=
 ∀ (pins:List (Addr×Obj)) (s:Shared) (σ:St) (H:Hp) (vs:List V) (us:List Value) (Q:St→Hp→Prop),Inv X pins σ H s→aI vs us→t vs σ H Q→
  wpAny (model X.prog X.w) X.A (assignInOrder ((assignEach ts X.env).map (·.2)) us) (fun _ s'=>∃ σ' H',Inv X pins σ' H' s'∧Q σ' H') X.xe s
abbrev xi:=V→V→V→Hp→(Hp→Prop)→Prop
def yE (X:Cx) (t:xi):Prop:=
 ∀ (pins:List (Addr×Obj)) (s:Shared) (σ:St) (H:Hp) (o i v:V) (ov iv u:Value) (Q:Hp→Prop),Inv X pins σ H s→aM o ov→aM i iv→aM v u→t o i v H Q→
  wpAny (model X.prog X.w) X.A (setItem ov iv u) (fun _ s'=>∃ H',Inv X pins σ H' s'∧Q H') X.xe s
abbrev TIp:=V→V→Hp→VK→Prop
def PIp (X:Cx) (op:Operator) (t:TIp):Prop:=
 ∀ (pins:List (Addr×Obj)) (s:Shared) (σ:St) (H:Hp) (x y:V) (v u:Value) (Q:VK),Inv X pins σ H s→aM x v→aM y u→t x y H Q→
  wpAny (model X.prog X.w) X.A (inplaceOp op v u) (EP X pins σ Q) X.xe s
section
variable {X:Cx} {pos:Pos}
def dQ (i:Nat):TG:=fun v σ H Q=>Q (σ.set i (some v)) H
theorem au {i:Nat} {x:Str} (hN:X.N.Nodup) (hi:X.N[i]? = some x) (hx:Loc X.env.scope x) (hf:X.fn x=true∨X.env.scope.names.lookup x=some .local:=by first | exact .inl rfl | exact .inr rfl | assumption):PG X (.Name x pos) (dQ i):=by
 intro pins s σ H v u Q I r h
 exact wpAny_assign_Name (fi I hN hi hx r (fun s' I'=>⟨_,H,I',h⟩) hf)
def yx:TGs:=fun vs σ H Q=>vs=[]∧Q σ H
def tD (t:TG) (u:TGs):TGs:=fun vs σ H Q=>∃ v r,vs=v::r∧t v σ H fun σ' H'=>u r σ' H' Q
theorem eK:PGs X [] yx:=by
 intro pins s σ H vs us Q I r h
 obtain⟨e,h⟩:=h
 subst e
 cases r
 exact assignInOrder_nil ⟨σ,H,I,h⟩
theorem bE {e:Expr} {es:List Expr} {t:TG} {u:TGs} (h1:PG X e t) (h2:PGs X es u)
  (hs:(assignEach (e::es) X.env).map (·.2)=assign e X.env::(assignEach es X.env).map (·.2):=by rfl):PGs X (e::es) (tD t u):=by
 intro pins s σ H vs us Q I r h
 obtain⟨v,vr,e1,h⟩:=h
 subst e1
 cases r with
 | cons r rr=>
  rw [hs]
  refine assignInOrder_cons (thn (h1 pins s σ H _ _ _ I r h) fun _ s1 ⟨σ1,H1,I1,q1⟩=>?_)
  exact h2 pins s1 σ1 H1 _ _ Q I1 rr q1
def yw (K:PySem.W.Frag) (n:Nat) (t:TGs):TG:=fun v σ H Q=>∃ a xs,v=.ref a∧SqT K H a xs∧xs.length=n∧t xs σ H Q
theorem ja {es:List Expr} {k:Nat} {t:TGs} {n:Nat} (hc:X.calm=true) (h:PGs X es t)
  (hn:(assignEach es X.env).length=n:=by rfl) (hst:(assignEach es X.env).findIdx? (·.1)=none:=by rfl):PG X (.Tuple es k pos) (yw X.K n t):=by
 intro pins s σ H v u Q I r hw
 obtain⟨a,xs,e1,hq,hl,hw⟩:=hw
 subst e1
 cases r
 obtain⟨its,rv,ht,hz⟩:=I.tuple hq
 refine assign_Tuple_tuple (I.ok.hd hc) ht (by simp [hn,← hl,rv.length]) hst fun h' hx=>?_
 have I1:Inv X pins σ H {s with heap:=h'}:=I.kept (t':=s.toks) fun b o e=>hx b o (Nat.ne_of_lt (Heap.lt_size e)) e
 exact h pins _ σ H xs _ Q I1 (by simpa using rv) hw
def y7 (to ti:TE) (t:xi):TG:=fun v σ H Q=>to σ H fun o H1=>ti σ H1 fun i H2=>t o i v H2 fun H3=>Q σ H3
theorem rL {o i:Expr} {to ti:TE} {t:xi} (ho:PE X o to) (hi:PE X i ti) (hs:yE X t)
  (ha:∀ v,assign (.Subscript o i pos) X.env v=(do
   let ov ← holding [v] (eval o X.env)
   let iv ← holding [v,ov] (eval i X.env)
   standAt pos
   holding [v,ov,iv] (setItem ov iv v)
   release [v,ov,iv] []):=by intro _; rfl):PG X (.Subscript o i pos) (y7 to ti t):=by
 intro pins s σ H v u Q I r h
 rw [ha]
 refine wpAny_bind (wpAny_holding (thn (ho pins s σ H _ I h) fun ov s1 ⟨x,H1,I1,r1,q1⟩=>?_))
 refine wpAny_bind (wpAny_holding (thn (hi pins s1 σ H1 _ I1 q1) fun iv s2 ⟨y,H2,I2,r2,q2⟩=>?_))
 refine wpAny_bind (wpAny_standAt (wpAny_bind (wpAny_holding (thn (hs pins s2 σ H2 x y v ov iv u _ I2 r1 r2 r q2) fun _ s3 ⟨H3,I3,q3⟩=>?_))))
 exact wpAny_release ⟨σ,H3,I3,q3⟩
def pW (te:TE) (g:TG):TS:=fun D σ H=>te σ H fun x H1=>g x σ H1 D.nx
theorem kz {tg e:Expr} {te:TE} {g:TG} (he:PE X e te) (hg:PG X tg g) (hs:swapsWithSole [tg] e pos.line X.env=pure false:=by rfl) (hw:swappedStores [tg] e X.env=pure none:=by rfl)
  (h1:(assignEach [tg] X.env).map (·.2)=[assign tg X.env]:=by rfl):PS X (.Assign [tg] e pos) (pW te g):=by
 intro pins s σ H D I h
 refine wpAny_Assign_stores (thn (he pins s σ H _ I h) fun v s1 ⟨x,H1,I1,r1,q1⟩=>?_) hs hw
 rw [h1]
 exact thn (hg pins s1 σ H1 x v _ I1 r1 q1) fun _ s2 q=>q
theorem bc {i:Nat} {x:Str} {e:Expr} {te:TE} {pos':Pos} (hN:X.N.Nodup) (hi:X.N[i]? = some x) (hx:Loc X.env.scope x) (he:PE X e te) (hs:swapsWith e (some (.Name x pos')) pos.line X.env=pure false:=by rfl) (hf:X.fn x=true∨X.env.scope.names.lookup x=some .local:=by first | exact .inl rfl | exact .inr rfl | assumption) :
  PS X (.Assign [.Name x pos'] e pos) (pW te (dQ i)):=by
 intro pins s σ H D I h
 refine wpAny_Assign_Name (thn (he pins s σ H _ I h) fun v s1 ⟨y,H1,I1,r1,q1⟩=>?_) hs
 exact fi I1 hN hi hx r1 (fun s2 I2=>⟨_,H1,I2,q1⟩) hf
def yO (i:Nat) (te:TE) (ti:TIp):TS:=fun D σ H=>∃ x,σ[i]? = some (some x)∧te σ H fun y H1=>ti x y H1 fun z H2=>D.nx (σ.set i (some z)) H2
theorem wF {i:Nat} {x:Str} {e:Expr} {te:TE} {op:Operator} {ti:TIp} {pos':Pos} (hN:X.N.Nodup) (hi:X.N[i]? = some x) (hx:Loc X.env.scope x) (he:PE X e te) (ho:PIp X op ti) (hf:X.fn x=true∨X.env.scope.names.lookup x=some .local:=by first | exact .inl rfl | exact .inr rfl | assumption) :
  PS X (.AugAssign (.Name x pos') op e pos) (yO i te ti):=by
 intro pins s σ H D I h
 obtain⟨v,e1,h⟩:=h
 obtain⟨m,hn,hl⟩:=I.loc
 have vis:Vis X.env.scope x:=by rcases hx with k | k; exact .inl k; exact .inr (.inl k)
 obtain⟨u,r,l⟩:=hl i x v hi e1 vis
 refine wpAny_AugAssign_Name ?_
 have go:wpAny (model X.prog X.w) X.A (eval e X.env) (fun w s₂=>wpAny (model X.prog X.w) X.A (inplaceOp op u w) (fun r s₃=>wpAny (model X.prog X.w) X.A (storeName X.env x r) (fun _=>SP X pins D .next) X.xe s₃) X.xe s₂) X.xe s:=by
  refine thn (he pins s σ H _ I h) fun w s1 ⟨y,H1,I1,r1,q1⟩=>?_
  refine thn (ho pins s1 σ H1 v y u w _ I1 r r1 q1) fun z s2 ⟨zv,H2,I2,r2,q2⟩=>?_
  exact fi I2 hN hi hx r2 (fun s3 I3=>⟨_,H2,I3,q2⟩) hf
 rcases l with ⟨hk,hm⟩ | ⟨hk,c,hc,hcell⟩
 ·exact wpAny_loadName_local I.ok.kind hk hn hm go
 ·rcases hk with hk | hk
  ·exact wpAny_loadName_cell I.ok.kind hk hc hcell go
  ·rcases hx with k | k
   ·have : X.env.scope.names.lookup x=some .free:=hk
    rw [k] at this; cases this
   ·have : X.env.scope.names.lookup x=some .free:=hk
    rw [k] at this; cases this
end
section
variable {X:Cx} {pos:Pos}
end
structure It where
 go:Nat→Hp→Prop
 yld:Nat→Hp→V→Hp→Prop
 stop:Nat→Hp→Prop
def fX (X:Cx) (pins:List (Addr×Obj)) (H:Hp) (b:Addr):Prop:=
 H b=none∧b≠X.env.locals∧b∉X.fs∧(b∈X.ex∨X.s₀.heap.objs.size≤b)∧(∀ x c,X.env.cells.lookup x=some c→c≠b)∧∀ p∈X.pn++pins,p.1≠b
theorem Inv.fpOk {X:Cx} {pins:List (Addr×Obj)} {σ:St} {H H':Hp} {s:Shared} {b:Addr} (I:Inv X pins σ H s) (hb:s.heap.objs.size≤b) (hn:H' b=none):fX X pins H' b:=by
 refine⟨hn,Nat.ne_of_gt (Nat.lt_of_lt_of_le I.lt hb),I.nofs hb,.inr (Nat.le_trans I.sz hb),fun x c e z=>?_,fun p hp z=>?_⟩
 ·obtain⟨v,q⟩:=I.cell x c e
  exact absurd (Nat.lt_of_lt_of_le q.lt (by rw [z]; exact hb)) (Nat.lt_irrefl _)
 ·exact absurd (Nat.lt_of_lt_of_le (Heap.lt_size (I.pin p hp).1) (by rw [z]; exact hb)) (Nat.lt_irrefl _)
structure kY (P:Program) (w:World) (K:PySem.W.Frag) (tg:Expr) (J:It) (fp:List Addr) (it:Addr) (tn:Nat→Heap→Prop):Prop where
 mem:it∈fp
 obj:∀ i h,tn i h→∀ b∈fp,∃ o,h.get? b=some o∧∀ v,o.data≠.cell v
 keep:∀ i h h',tn i h→(∀ b∈fp,∀ o,h.get? b=some o→h'.get? b=some o)→tn i h'
 item:∀ (X:Cx),X.prog=P→X.w=w→X.K=K→X.calm=true→∀ (i:Nat) (pins:List (Addr×Obj)) (s:Shared) (σ:St) (H:Hp) (E:Value→Shared→Prop),Inv X pins σ H s→(∀ b∈fp,fX X pins H b)→tn i s.heap→J.go i H→
  wpAny (model P w) X.A (pyNext (.ref it)) (fun r s1=>∃ u,r=some u∧
   wpAny (model P w) X.A (letOwnedTupleGo tg (.ref it) u) (fun _ s2=>∃ x H',Inv X pins σ H' s2∧aM x u∧J.yld i H x H'∧tn (i+1) s2.heap∧∀ b∈fp,H' b=none) E s1) E s
 done:∀ (X:Cx),X.prog=P→X.w=w→X.K=K→X.calm=true→∀ (i:Nat) (pins:List (Addr×Obj)) (s:Shared) (σ:St) (H:Hp) (E:Value→Shared→Prop),Inv X pins σ H s→(∀ b∈fp,fX X pins H b)→tn i s.heap→J.stop i H→
  wpAny (model P w) X.A (pyNext (.ref it)) (fun r s1=>r=none∧Inv X pins σ H s1) E s
 self:∀ (A:Around) (i:Nat) (s:Shared) (Q:Value→Shared→Prop) (E:Value→Shared→Prop),tn i s.heap→Q (.ref it) s→wpAny (model P w) A (pyIter (.ref it)) Q E s
abbrev TI:=St→Hp→(It→Hp→Prop)→Prop
def PIE (X:Cx) (pins:List (Addr×Obj)) (σ:St) (tg:Expr) (R:It→Hp→Prop) (itv:Value) (s2:Shared):Prop:=
 ∃ (it:Addr) (fp:List Addr) (tn:Nat→Heap→Prop) (J:It) (H':Hp),itv=.ref it∧Inv X pins σ H' s2∧kY X.prog X.w X.K tg J fp it tn∧tn 0 s2.heap∧(∀ b∈fp,fX X pins H' b)∧R J H'
def PI (X:Cx) (tg iter:Expr) (wi:TI):Prop:=
 ∀ (pins:List (Addr×Obj)) (s:Shared) (σ:St) (H:Hp) (R:It→Hp→Prop),Inv X pins σ H s→wi σ H R→
  wpAny (model X.prog X.w) X.A (eval iter X.env) (fun v s1=>wpAny (model X.prog X.w) X.A (pyIter v) (PIE X pins σ tg R) X.xe s1) X.xe s
theorem mx {M:Model} {A:Around} {E:Value→Shared→Prop} {s:Shared} {tg:Expr} {it:Addr} {u:Value} {o:Obj} {n:String} {vs:Array Value} {Q:Unit→Shared→Prop} (ho:s.heap.get? it=some o) (hc:o.cls=.type n) (hd:o.data=.fields vs)
    (hn:["enumerate","zip","dict_itemiterator","dict_reverseitemiterator","odict_iterator","itertools.zip_longest","itertools.pairwise"].contains n=false) (hQ:Q () s):wpAny M A (letOwnedTupleGo tg (.ref it) u) Q E s:=by
  unfold letOwnedTupleGo
  cases tg <;> first
    | exact wpAny_pure hQ
    | (cases u <;> first
        | exact wpAny_pure hQ
        | (refine wpAny_bind (wpAny_load ho ?_)
           rw [hc,hd]
           show wpAny M A (if (["enumerate","zip","dict_itemiterator","dict_reverseitemiterator","odict_iterator","itertools.zip_longest","itertools.pairwise"].contains n&&vs[0]? == some (rawInt _))=true then _ else _) Q E s
           rw [if_neg (by intro h; rw [hn,Bool.false_and] at h; cases h)]
           exact wpAny_pure hQ))
def Itl (K:PySem.W.Frag) (a:Addr):It:=
 ⟨fun i H=>∃ xs x,SqL K H a xs∧xs[i]? = some x,fun i H x H'=>H'=H∧∀ xs,SqL K H a xs→xs[i]? = some x,fun i H=>∃ xs,SqL K H a xs∧xs.length≤i⟩
def Itt (K:PySem.W.Frag) (a:Addr):It:=
 ⟨fun i H=>∃ xs x,SqT K H a xs∧xs[i]? = some x,fun i H x H'=>H'=H∧∀ xs,SqT K H a xs→xs[i]? = some x,fun i H=>∃ xs,SqT K H a xs∧xs.length≤i⟩
def Itr (lo:Int) (n:Nat):It:=⟨fun i _=>i<n,fun i H x H'=>H'=H∧x=.int (lo+i),fun i _=>n≤i⟩
theorem pT {P:Program} {w:World} {K:PySem.W.Frag} {tg:Expr} (a it:Addr):kY P w K tg (Itl K a) [it] it (fun i h=>h.IsListIter it a i) where
 mem:=by simp
 obj:=fun i h st b hb=>by
  have e:b=it:=by simpa using hb
  subst e
  obtain⟨o,e,c,d⟩:=st
  exact⟨o,e,fun v z=>by rw [d] at z; cases z⟩
 keep:=fun i h h' st k=>st.at fun o e=>k it (by simp) o e
 item:=by
  intro X hP hw hK hc i pins s σ H E I hf st hg
  subst hP hw hK
  obtain⟨xs,x,hq,hx⟩:=hg
  obtain⟨its,rv,p,hz⟩:=I.list hq
  obtain⟨u,hu,ru⟩:=rv.get hx
  obtain⟨f0,f1,f2,f3,f4,f5⟩:=hf it (by simp)
  refine wpAny_pyNext_list_item st p.isList (x:=u) (by simpa using hu) fun h' st' sb=>?_
  have I1:Inv X pins σ H {s with heap:=h'}:=I.turned (t':=s.toks) (fun b o hb e=>(sb.2 b hb).trans e) f0 f1 f3 f4 f5
  obtain⟨o,e,c,d⟩:=id st'
  exact⟨u,rfl,mx (s:={s with heap:=h'}) e c d (by decide) ⟨x,H,I1,ru,⟨rfl,fun ys hy=>by rw [I.list_inj hy hq]; exact hx⟩,st',fun b hb=>(hf b hb).1⟩⟩
 done:=by
  intro X hP hw hK hc i pins s σ H E I hf st hg
  subst hP hw hK
  obtain⟨xs,hq,hx⟩:=hg
  obtain⟨its,rv,p,hz⟩:=I.list hq
  obtain⟨f0,f1,f2,f3,f4,f5⟩:=hf it (by simp)
  have hl:=rv.length
  exact wpAny_pyNext_list_end (I.ok.hd hc) st p.isList (by simp; omega) fun h' eb=>⟨rfl,I.turned (t':=s.toks) (fun b o hb e=>eb b o hb e) f0 f1 f3 f4 f5⟩
 self:=fun _ _ _ _ _ st h=>wpAny_pyIter_listiter st h
theorem m6 {P:Program} {w:World} {K:PySem.W.Frag} {tg:Expr} (a it:Addr):kY P w K tg (Itt K a) [it] it (fun i h=>h.IsTupleIter it a i) where
 mem:=by simp
 obj:=fun i h st b hb=>by
  have e:b=it:=by simpa using hb
  subst e
  obtain⟨o,e,c,d⟩:=st
  exact⟨o,e,fun v z=>by rw [d] at z; cases z⟩
 keep:=fun i h h' st k=>st.at fun o e=>k it (by simp) o e
 item:=by
  intro X hP hw hK hc i pins s σ H E I hf st hg
  subst hP hw hK
  obtain⟨xs,x,hq,hx⟩:=hg
  obtain⟨its,rv,p,hz⟩:=I.tuple hq
  obtain⟨u,hu,ru⟩:=rv.get hx
  obtain⟨f0,f1,f2,f3,f4,f5⟩:=hf it (by simp)
  refine wpAny_pyNext_tuple_item st (show s.heap.IsTuple a its.toArray from p) (x:=u) (by simpa using hu) fun h' st' sb=>?_
  have I1:Inv X pins σ H {s with heap:=h'}:=I.turned (t':=s.toks) (fun b o hb e=>(sb.2 b hb).trans e) f0 f1 f3 f4 f5
  obtain⟨o,e,c,d⟩:=id st'
  exact⟨u,rfl,mx (s:={s with heap:=h'}) e c d (by decide) ⟨x,H,I1,ru,⟨rfl,fun ys hy=>by rw [I.tuple_inj hy hq]; exact hx⟩,st',fun b hb=>(hf b hb).1⟩⟩
 done:=by
  intro X hP hw hK hc i pins s σ H E I hf st hg
  subst hP hw hK
  obtain⟨xs,hq,hx⟩:=hg
  obtain⟨its,rv,p,hz⟩:=I.tuple hq
  obtain⟨f0,f1,f2,f3,f4,f5⟩:=hf it (by simp)
  have hl:=rv.length
  exact wpAny_pyNext_tuple_end (I.ok.hd hc) st (show s.heap.IsTuple a its.toArray from p) (by simp; omega) fun h' eb=>⟨rfl,I.turned (t':=s.toks) (fun b o hb e=>eb b o hb e) f0 f1 f3 f4 f5⟩
 self:=fun _ _ _ _ _ st h=>wpAny_pyIter_tupleiter st h
theorem m7 {P:Program} {w:World} {K:PySem.W.Frag} {tg:Expr} (it:Addr) (lo:Int) (n:Nat):kY P w K tg (Itr lo n) [it] it (fun i h=>IsRangeIter h it (lo+(i:Nat)*1) ((n:Int) - (i:Nat)) 1) where
 mem:=by simp
 obj:=fun i h st b hb=>by
  have e:b=it:=by simpa using hb
  subst e
  exact⟨_,st,fun v z=>by
   have z':Data.fields _=Data.cell v:=z
   cases z'⟩
 keep:=fun i h h' st k=>k it (by simp) _ st
 item:=by
  intro X hP hw hK hc i pins s σ H E I hf st hg
  subst hP hw hK
  obtain⟨f0,f1,f2,f3,f4,f5⟩:=hf it (by simp)
  have W:=Walks.range (prog:=X.prog) (w:=X.w) (I.ok.hd hc) it lo 1 n
  refine W.item i s _ _ hg st fun v h' tk hv st' kk=>?_
  obtain⟨t,rfl⟩:=hv
  have I1:Inv X pins σ H {s with heap:=h',toks:=tk}:=I.turned (fun b o hb e=>kk b o (by simpa using hb) e) f0 f1 f3 f4 f5
  refine⟨_,rfl,mx (s:={s with heap:=h',toks:=tk}) (n:="range_iterator") st' rfl rfl (by decide) ⟨.int (lo+i),H,I1,⟨t,?_⟩,⟨rfl,rfl⟩,st',fun b hb=>(hf b hb).1⟩⟩
  rw [Int.mul_one]
 done:=by
  intro X hP hw hK hc i pins s σ H E I hf st hg
  subst hP hw hK
  obtain⟨f0,f1,f2,f3,f4,f5⟩:=hf it (by simp)
  exact wpAny_pyNext_range_end (I.ok.hd hc) st (by have : n≤i:=hg; omega) fun h' eb=>⟨rfl,I.turned (t':=s.toks) (fun b o hb e=>eb b o hb e) f0 f1 f3 f4 f5⟩
 self:=fun _ _ _ _ _ st h=>wpAny_pyIter_rangeiter st h
section
variable {X:Cx} {tg:Expr}
def vW (K:PySem.W.Frag) (tl:TE):TI:=fun σ H R=>tl σ H fun x H1=>∃ a,x=.ref a∧(∃ xs,SqL K H1 a xs)∧R (Itl K a) H1
def yq (K:PySem.W.Frag) (tl:TE):TI:=fun σ H R=>tl σ H fun x H1=>∃ a,x=.ref a∧(∃ xs,SqT K H1 a xs)∧R (Itt K a) H1
theorem bn {l:Expr} {tl:TE} (hl:PE X l tl):PI X tg l (vW X.K tl):=by
 intro pins s σ H R I h
 refine thn (hl pins s σ H _ I h) fun v s1 ⟨x,H1,I1,r1,q1⟩=>?_
 obtain⟨a,e,⟨xs,hq⟩,q⟩:=q1
 subst e
 cases r1
 obtain⟨its,rv,p,hz⟩:=I1.list hq
 refine wpAny_pyIter_list p.isList ?_
 refine⟨s1.heap.objs.size,[s1.heap.objs.size],_,_,H1,rfl,I1.kept (t':=s1.toks) fun b o e=>Heap.get?_push_of_some _ e,pT a _,⟨_,Heap.get?_push_size _ rfl,rfl,rfl⟩,fun b hb=>?_,q⟩
 have e:b=s1.heap.objs.size:=by simpa using hb
 subst e
 exact I1.fpOk (Nat.le_refl _) (I1.hok.fresh (Nat.le_refl _))
theorem kD {l:Expr} {tl:TE} (hl:PE X l tl):PI X tg l (yq X.K tl):=by
 intro pins s σ H R I h
 refine thn (hl pins s σ H _ I h) fun v s1 ⟨x,H1,I1,r1,q1⟩=>?_
 obtain⟨a,e,⟨xs,hq⟩,q⟩:=q1
 subst e
 cases r1
 obtain⟨its,rv,p,hz⟩:=I1.tuple hq
 refine wpAny_pyIter_tuple (show s1.heap.IsTuple a its.toArray from p) ?_
 refine⟨s1.heap.objs.size,[s1.heap.objs.size],_,_,H1,rfl,I1.kept (t':=s1.toks) fun b o e=>Heap.get?_push_of_some _ e,m6 a _,⟨_,Heap.get?_push_size _ rfl,rfl,rfl⟩,fun b hb=>?_,q⟩
 have e:b=s1.heap.objs.size:=by simpa using hb
 subst e
 exact I1.fpOk (Nat.le_refl _) (I1.hok.fresh (Nat.le_refl _))
theorem lP {pins:List (Addr×Obj)} {σ:St} {H:Hp} {s:Shared} {R:It→Hp→Prop} {E:Value→Shared→Prop} {lo hi:Int} {t u v:Tok} {tk:Nat} (I:Inv X pins σ H s) (h1:-(2 ^ 62)≤lo) (h2:lo<2 ^ 62) (h3:-(2 ^ 62)≤hi) (h4:hi<2 ^ 62)
  (q:R (Itr lo (hi-lo).toNat) H):wpAny (model X.prog X.w) X.A (pyIter (.ref s.heap.objs.size)) (PIE X pins σ tg R) E {s with heap:=s.heap.push {cls:=.type "range",data:=.fields #[.int lo t,.int hi u,.int 1 v]},toks:=tk}:=by
 refine wpAny_pyIter_range (IsRange.new ..) (small_one h1 h2 h3 h4) ?_
 have I1:Inv X pins σ H {s with heap:=s.heap.push {cls:=.type "range",data:=.fields #[.int lo t,.int hi u,.int 1 v]},toks:=tk}:=I.kept fun b o e=>Heap.get?_push_of_some _ e
 refine⟨(s.heap.push {cls:=.type "range",data:=.fields #[.int lo t,.int hi u,.int 1 v]}).objs.size,[(s.heap.push {cls:=.type "range",data:=.fields #[.int lo t,.int hi u,.int 1 v]}).objs.size],_,_,H,rfl,
  I1.kept (t':=tk) fun b o e=>Heap.get?_push_of_some _ e,m7 _ lo (hi-lo).toNat,?_,fun b hb=>?_,q⟩
 ·have e1:lo+((0:Nat):Int)*1=lo:=by simp
  have e2:(((hi-lo).toNat:Nat):Int) - ((0:Nat):Int)=Builtin.Range.rangeSize lo hi 1:=by rw [rangeSize_one]; split <;> omega
  show IsRangeIter _ _ (lo+((0:Nat):Int)*1) ((((hi-lo).toNat:Nat):Int) - ((0:Nat):Int)) 1
  rw [e1,e2]
  exact Heap.get?_push_size _ rfl
 ·have e:b=(s.heap.push {cls:=.type "range",data:=.fields #[.int lo t,.int hi u,.int 1 v]}).objs.size:=by simpa using hb
  subst e
  exact I1.fpOk (Nat.le_refl _) (I1.hok.fresh (Nat.le_refl _))
def yu (ta:TA):TI:=fun σ H R=>ta σ H fun vs H1=>∃ j:Int,vs=[.int j]∧-(2 ^ 62)≤j∧j<2 ^ 62∧R (Itr 0 j.toNat) H1
def yt (ta:TA):TI:=fun σ H R=>ta σ H fun vs H1=>∃ i j:Int,vs=[.int i,.int j]∧(-(2 ^ 62)≤i∧i<2 ^ 62∧-(2 ^ 62)≤j∧j<2 ^ 62)∧R (Itr i (j-i).toNat) H1
theorem eF {a:Expr} {ta:TA} {p pos:Pos} (hg:Gl X "range") (hm:X.mg "range"=none) (ha:PA X [a] ta) (hs:starEach [a] X.env=[(false,eval a X.env)]:=by rfl):PI X tg (.Call (.Name "range" p) [a] [] pos) (yu ta):=by
 intro pins s σ H R I h
 refine Call_ (fC I hg hm boot_range (PyProof.Rows.callWith_type1 (thn (ha pos pins s σ H _ I h) fun us s1 ⟨vs,H1,I1,r1,q1⟩=>?_) hs rfl))
 obtain⟨j,e,q1,q2,q⟩:=q1
 subst e
 cases r1 with
 | cons r rr=>
  cases rr
  obtain⟨t,rfl⟩:=r
  exact call_range_1 (lP I1 (by omega) (by omega) q1 q2 (by simpa using q))
theorem qc {a b:Expr} {ta:TA} {p pos:Pos} (hg:Gl X "range") (hm:X.mg "range"=none) (ha:PA X [a,b] ta) (hs:starEach [a,b] X.env=[(false,eval a X.env),(false,eval b X.env)]:=by rfl) (hs2:starEach [b] X.env=[(false,eval b X.env)]:=by rfl) :
  PI X tg (.Call (.Name "range" p) [a,b] [] pos) (yt ta):=by
 intro pins s σ H R I h
 refine Call_ (fC I hg hm boot_range (PyProof.Rows.callWith_type1 (thn (ha pos pins s σ H _ I h) fun us s1 ⟨vs,H1,I1,r1,q1⟩=>?_) (by rw [hs,hs2]) (by rw [hs2]; rfl)))
 obtain⟨i,j,e,⟨q1,q2,q3,q4⟩,q⟩:=q1
 subst e
 cases r1 with
 | cons r rr=>
  cases rr with
  | cons r' rr=>
   cases rr
   obtain⟨t,rfl⟩:=r
   obtain⟨t',rfl⟩:=r'
   exact call_range_2 (lP I1 q1 q2 q3 q4 q)
def yL (wi:TI) (g:TG) (tb:TS):TS:=fun D σ H=>wi σ H fun J H1=>∃ W:Nat→Nat→St→Hp→Prop,(∃ m,W 0 m σ H1)∧∀ i m σ H,W i m σ H→
 (J.stop i H∧D.nx σ H)∨(J.go i H∧∃ N:St→Hp→Prop,(∀ σ' H',N σ' H'→∃ m',m'<m∧W (i+1) m' σ' H')∧∀ x H',J.yld i H x H'→g x σ H' fun σ2 H2=>tb {D with nx:=N,ct:=N,bk:=D.nx} σ2 H2)
def bI (fp:List Addr) (h:Heap):List (Addr×Obj):=fp.filterMap fun b=>(h.get? b).map fun o=>(b,o)
theorem bD {fp:List Addr} {h:Heap} {b:Addr} {o:Obj} (hb:b∈fp) (e:h.get? b=some o):(b,o)∈bI fp h:=List.mem_filterMap.mpr ⟨b,hb,by rw [e]; rfl⟩
theorem eI {fp:List Addr} {h:Heap} {p:Addr×Obj} (hp:p∈bI fp h):p.1∈fp∧h.get? p.1=some p.2:=by
 obtain⟨b,hb,e⟩:=List.mem_filterMap.mp hp
 cases q:h.get? b with
 | none=>rw [q] at e; cases e
 | some o=>
  rw [q] at e
  have e':(b,o)=p:=Option.some.inj e
  subst e'
  exact⟨hb,q⟩
theorem Inv.pinned {pins:List (Addr×Obj)} {σ:St} {H:Hp} {s:Shared} {fp:List Addr} (I:Inv X pins σ H s) (hf:∀ b∈fp,fX X pins H b) (ho:∀ b∈fp,∃ o,s.heap.get? b=some o∧∀ v,o.data≠.cell v):Inv X (pins++bI fp s.heap) σ H s:=
 I.pins_of fun p hp=>(List.mem_append.mp hp).elim (fun z=>I.pin p (List.mem_append_right _ z)) fun z=>by
  obtain⟨hb,e⟩:=eI z
  obtain⟨f0,f1,f2,_⟩:=hf p.1 hb
  obtain⟨o,e',d⟩:=ho p.1 hb
  rw [e] at e'; cases e'
  exact⟨e,f0,f1,f2,d⟩
theorem Inv.unpinned {pins pl:List (Addr×Obj)} {σ:St} {H:Hp} {s:Shared} (I:Inv X (pins++pl) σ H s):Inv X pins σ H s:=I.pins_of fun p hp=>I.pin p (List.mem_append_right _ (List.mem_append_left _ hp))
theorem cg {iter:Expr} {body:List Stmt} {wi:TI} {g:TG} {tb:TS} {pos:Pos} (hp:PassesOwn (model X.prog X.w) X.A X.env X.xe) (hc:X.calm=true) (hi:PI X tg iter wi) (hg:PG X tg g) (hb:PSs X body tb)
  (hs:∀ x,foldedSetIterable iter X.env x=pure x:=by intro _; rfl):PS X (.For tg iter body [] pos) (yL wi g tb):=by
 intro pins s σ H D I h
 refine wpAny_For (thn (hi pins s σ H _ I h) fun v s1 h1=>thn h1 fun itv s2 h2=>?_) hs
 obtain⟨it,fp,tn,J,H2,e,I2,T,st2,f2,W,⟨m0,w0⟩,turn⟩:=h2
 subst e
 have stat:∀ {H':Hp},(∀ b∈fp,H' b=none)→∀ b∈fp,fX X pins H' b:=fun hn b hb=>⟨hn b hb,(f2 b hb).2⟩
 refine codeAny_forLoop_any (fun n s'=>∃ i σ' H',Inv X pins σ' H' s'∧tn i s'.heap∧(∀ b∈fp,H' b=none)∧W i n σ' H') ?_ m0 ⟨0,σ,H2,I2,st2,fun b hb=>(f2 b hb).1,w0⟩
 rintro n s3 ⟨i,σ3,H3,I3,st3,fr3,w3⟩
 rcases turn i n σ3 H3 w3 with ⟨stop,qn⟩ | ⟨go,N,hN,step⟩
 ·refine wpAny_passesOwn hp (thn (T.done X rfl rfl rfl hc i pins s3 σ3 H3 X.xe I3 (stat fr3) st3 stop) fun r s4 ⟨hr,I4⟩=>?_)
  subst hr
  exact wpAny_execs_nil ⟨σ3,H3,I4,qn⟩
 ·refine wpAny_passesOwn hp (thn (T.item X rfl rfl rfl hc i pins s3 σ3 H3 X.xe I3 (stat fr3) st3 go) fun r s4 ⟨u,hr,h4⟩=>?_)
  subst hr
  refine wpAny_passesOwn hp (thn h4 fun _ s5 ⟨x,H5,I5,r5,y5,st5,fr5⟩=>?_)
  have I5':=I5.pinned (stat fr5) (T.obj _ _ st5)
  refine wpAny_passesOwn hp (thn (hg _ s5 σ3 H5 x u _ I5' r5 (step x H5 y5)) fun _ s6 ⟨σ6,H6,I6,q6⟩=>?_)
  refine wpAny_passesOwn hp (thn (hb _ s6 σ6 H6 _ I6 q6) fun f s7 q7=>?_)
  have again:∀ {σ7:St} {H7:Hp},Inv X (pins++bI fp s5.heap) σ7 H7 s7→N σ7 H7→∃ m,m<n∧∃ i σ' H',Inv X pins σ' H' s7∧tn i s7.heap∧(∀ b∈fp,H' b=none)∧W i m σ' H':=fun {σ7 H7} I7 n7=>by
   obtain⟨m',hm,w7⟩:=hN σ7 H7 n7
   refine⟨m',hm,i+1,σ7,H7,I7.unpinned,T.keep _ _ _ st5 fun b hb o e=>(I7.pin (b,o) (List.mem_append_right _ (List.mem_append_right _ (bD hb e)))).1,fun b hb=>?_,w7⟩
   obtain⟨o,e,d⟩:=T.obj _ _ st5 b hb
   exact(I7.pin (b,o) (List.mem_append_right _ (List.mem_append_right _ (bD hb e)))).2.1
  cases f with
  | next=>obtain⟨σ7,H7,I7,n7⟩:=q7; exact again I7 n7
  | cont=>obtain⟨σ7,H7,I7,n7⟩:=q7; exact again I7 n7
  | brk=>obtain⟨σ7,H7,I7,q7⟩:=q7; exact⟨σ7,H7,I7.unpinned,q7⟩
  | ret v=>obtain⟨x7,σ7,H7,I7,r7,q7⟩:=q7; exact⟨x7,σ7,H7,I7.unpinned,r7,q7⟩
end
theorem bM {K:PySem.W.Frag} {a:Addr} {xs:List V} {g:TG} {tb:TS} {D:jD} {σ:St} {H:Hp} (Pv:Nat→St→Hp→Prop) (h0:Pv 0 σ H) (hl:∀ i σ H,i≤xs.length→Pv i σ H→SqL K H a xs)
  (hs:∀ i x σ H,xs[i]? = some x→Pv i σ H→g x σ H fun σ2 H2=>tb {D with nx:=Pv (i+1),ct:=Pv (i+1),bk:=D.nx} σ2 H2) (hd:∀ σ H,Pv xs.length σ H→D.nx σ H) :
  ∃ W:Nat→Nat→St→Hp→Prop,(∃ m,W 0 m σ H)∧∀ i m σ H,W i m σ H→
   ((Itl K a).stop i H∧D.nx σ H)∨((Itl K a).go i H∧∃ N:St→Hp→Prop,(∀ σ' H',N σ' H'→∃ m',m'<m∧W (i+1) m' σ' H')∧∀ x H',(Itl K a).yld i H x H'→g x σ H' fun σ2 H2=>tb {D with nx:=N,ct:=N,bk:=D.nx} σ2 H2):=by
 refine⟨fun i m σ H=>m=xs.length-i∧i≤xs.length∧Pv i σ H,⟨xs.length,by simp,Nat.zero_le _,h0⟩,?_⟩
 rintro i m σ H ⟨rfl,hi,p⟩
 have q:=hl i σ H hi p
 by_cases hlt:i<xs.length
 ·refine .inr ⟨⟨xs,xs[i],q,by simp [hlt]⟩,Pv (i+1),fun σ' H' p'=>⟨xs.length - (i+1),by omega,rfl,hlt,p'⟩,fun x H' y=>?_⟩
  obtain⟨e,y⟩:=y
  subst e
  exact hs i x σ _ (y xs q) p
 ·have e:i=xs.length:=by omega
  subst e
  exact .inl ⟨⟨xs,q,Nat.le_refl _⟩,hd σ H p⟩
theorem vc {K:PySem.W.Frag} {a:Addr} {xs:List V} {g:TG} {tb:TS} {D:jD} {σ:St} {H:Hp} (Pv:Nat→St→Hp→Prop) (h0:Pv 0 σ H) (hl:∀ i σ H,i≤xs.length→Pv i σ H→SqT K H a xs)
  (hs:∀ i x σ H,xs[i]? = some x→Pv i σ H→g x σ H fun σ2 H2=>tb {D with nx:=Pv (i+1),ct:=Pv (i+1),bk:=D.nx} σ2 H2) (hd:∀ σ H,Pv xs.length σ H→D.nx σ H) :
  ∃ W:Nat→Nat→St→Hp→Prop,(∃ m,W 0 m σ H)∧∀ i m σ H,W i m σ H→
   ((Itt K a).stop i H∧D.nx σ H)∨((Itt K a).go i H∧∃ N:St→Hp→Prop,(∀ σ' H',N σ' H'→∃ m',m'<m∧W (i+1) m' σ' H')∧∀ x H',(Itt K a).yld i H x H'→g x σ H' fun σ2 H2=>tb {D with nx:=N,ct:=N,bk:=D.nx} σ2 H2):=by
 refine⟨fun i m σ H=>m=xs.length-i∧i≤xs.length∧Pv i σ H,⟨xs.length,by simp,Nat.zero_le _,h0⟩,?_⟩
 rintro i m σ H ⟨rfl,hi,p⟩
 have q:=hl i σ H hi p
 by_cases hlt:i<xs.length
 ·refine .inr ⟨⟨xs,xs[i],q,by simp [hlt]⟩,Pv (i+1),fun σ' H' p'=>⟨xs.length - (i+1),by omega,rfl,hlt,p'⟩,fun x H' y=>?_⟩
  obtain⟨e,y⟩:=y
  subst e
  exact hs i x σ _ (y xs q) p
 ·have e:i=xs.length:=by omega
  subst e
  exact .inl ⟨⟨xs,q,Nat.le_refl _⟩,hd σ H p⟩
theorem qF {lo:Int} {n:Nat} {g:TG} {tb:TS} {D:jD} {σ:St} {H:Hp} (Pv:Nat→St→Hp→Prop) (h0:Pv 0 σ H)
  (hs:∀ i σ H,i<n→Pv i σ H→g (.int (lo+i)) σ H fun σ2 H2=>tb {D with nx:=Pv (i+1),ct:=Pv (i+1),bk:=D.nx} σ2 H2) (hd:∀ σ H,Pv n σ H→D.nx σ H) :
  ∃ W:Nat→Nat→St→Hp→Prop,(∃ m,W 0 m σ H)∧∀ i m σ H,W i m σ H→
   ((Itr lo n).stop i H∧D.nx σ H)∨((Itr lo n).go i H∧∃ N:St→Hp→Prop,(∀ σ' H',N σ' H'→∃ m',m'<m∧W (i+1) m' σ' H')∧∀ x H',(Itr lo n).yld i H x H'→g x σ H' fun σ2 H2=>tb {D with nx:=N,ct:=N,bk:=D.nx} σ2 H2):=by
 refine⟨fun i m σ H=>m=n-i∧i≤n∧Pv i σ H,⟨n,by simp,Nat.zero_le _,h0⟩,?_⟩
 rintro i m σ H ⟨rfl,hi,p⟩
 by_cases hlt:i<n
 ·refine .inr ⟨hlt,Pv (i+1),fun σ' H' p'=>⟨n - (i+1),by omega,rfl,hlt,p'⟩,fun x H' y=>?_⟩
  obtain⟨e,y⟩:=y
  subst e y
  exact hs i σ _ hlt p
 ·have e:i=n:=by omega
  subst e
  exact .inl ⟨Nat.le_refl _,hd σ H p⟩
abbrev R2:=V→V→Hp→VK→Prop
def OpR (X:Cx) (f:Value→Value→Sem Value) (r:R2):Prop:=
 ∀ (pins:List (Addr×Obj)) (s:Shared) (σ:St) (H:Hp) (x y:V) (v u:Value) (Q:VK),Inv X pins σ H s→aM x v→aM y u→r x y H Q→
  wpAny (model X.prog X.w) X.A (f v u) (EP X pins σ Q) X.xe s
def UnR (X:Cx) (f:Value→Sem Value) (r:V→Hp→VK→Prop):Prop:=
 ∀ (pins:List (Addr×Obj)) (s:Shared) (σ:St) (H:Hp) (x:V) (v:Value) (Q:VK),Inv X pins σ H s→aM x v→r x H Q→
  wpAny (model X.prog X.w) X.A (f v) (EP X pins σ Q) X.xe s
def cX (X:Cx) (f:Value) (r:List V→Hp→VK→Prop):Prop:=
 ∀ (pins:List (Addr×Obj)) (s:Shared) (σ:St) (H:Hp) (xs:List V) (us:List Value) (Q:VK),Inv X pins σ H s→aI xs us→r xs H Q→
  wpAny (model X.prog X.w) X.A (call f us) (EP X pins σ Q) X.xe s
def tOp (r:R2) (ta tb:TE):TE:=fun σ H Q=>ta σ H fun x H1=>tb σ H1 fun y H2=>r x y H2 Q
def tUn (r:V→Hp→VK→Prop) (ta:TE):TE:=fun σ H Q=>ta σ H fun x H1=>r x H1 Q
def rI (C:Int→Int→Prop) (g:Int→Int→V):R2:=fun x y H Q=>∃ i j,x=.int i∧y=.int j∧C i j∧Q (g i j) H
def rI0 (g:Int→Int→V):R2:=fun x y H Q=>∃ i j,x=.int i∧y=.int j∧Q (g i j) H
def rU (g:Int→V):V→Hp→VK→Prop:=fun x H Q=>∃ i,x=.int i∧Q (g i) H
section
variable {X:Cx} {a b c:Expr} {ta tb tc:TE} {pos:Pos}
theorem xh (ha:PE X a ta) (hb:PE X b tb) {pins:List (Addr×Obj)} {s:Shared} {σ:St} {H:Hp} {R:V→V→Hp→Prop} (I:Inv X pins σ H s)
  (h:ta σ H fun x H1=>tb σ H1 fun y H2=>R x y H2) {Q:Value→Shared→Prop} {f:Value→Value→Sem Value}
  (hf:∀ v u s2 x y H2,Inv X pins σ H2 s2→aM x v→aM y u→R x y H2→wpAny (model X.prog X.w) X.A (f v u) Q X.xe s2) :
  wpAny (model X.prog X.w) X.A (eval a X.env) (fun v s₁=>wpAny (model X.prog X.w) X.A (eval b X.env) (fun u s₂=>wpAny (model X.prog X.w) X.A (f v u) Q X.xe s₂) X.xe s₁) X.xe s:=by
 refine thn (ha pins s σ H _ I h) fun v s1 ⟨x,H1,I1,r1,q1⟩=>?_
 refine thn (hb pins s1 σ H1 _ I1 q1) fun u s2 ⟨y,H2,I2,r2,q2⟩=>?_
 exact hf v u s2 x y H2 I2 r1 r2 q2
theorem bW {op:Operator} {r:R2} (ho:OpR X (binaryOp op) r) (ha:PE X a ta) (hb:PE X b tb):PE X (.BinOp a op b pos) (tOp r ta tb):=by
 intro pins s σ H Q I h
 exact wpAny_BinOp (xh ha hb I h fun v u s2 x y H2 I2 rx ry q=>ho pins s2 σ H2 x y v u Q I2 rx ry q)
theorem vU {op:UnaryOp} {r:V→Hp→VK→Prop} (ho:UnR X (unaryOp op) r) (ha:PE X a ta):PE X (.UnaryOp op a pos) (tUn r ta):=by
 intro pins s σ H Q I h
 exact UnaryOp_ (thn (ha pins s σ H _ I h) fun v s1 ⟨x,H1,I1,r1,q1⟩=>ho pins s1 σ H1 x v Q I1 r1 q1)
theorem opI {f:Value→Value→Sem Value} {C:Int→Int→Prop} {g:Int→Int→Int}
  (rule:∀ (i j:Int) (t u:Tok) (s:Shared) (Q:Value→Shared→Prop) (E:Value→Shared→Prop),C i j→Q (.int (g i j) s.toks) {s with toks:=s.toks+1}→wpAny (model X.prog X.w) X.A (f (.int i t) (.int j u)) Q E s) :
  OpR X f (rI C fun i j=>.int (g i j)):=by
 intro pins s σ H x y v u Q I rx ry h
 obtain⟨i,j,rfl,rfl,hc,q⟩:=h
 obtain⟨t,rfl⟩:=rx
 obtain⟨t',rfl⟩:=ry
 exact rule i j t t' s _ _ hc ⟨.int (g i j),H,I.tok _,⟨_,rfl⟩,q⟩
theorem yh {f:Value→Value→Sem Value} {g:Int→Int→Int}
  (rule:∀ (i j:Int) (t u:Tok) (s:Shared) (Q:Value→Shared→Prop) (E:Value→Shared→Prop),Q (.int (g i j) s.toks) {s with toks:=s.toks+1}→wpAny (model X.prog X.w) X.A (f (.int i t) (.int j u)) Q E s) :
  OpR X f (rI0 fun i j=>.int (g i j)):=by
 intro pins s σ H x y v u Q I rx ry h
 obtain⟨i,j,rfl,rfl,q⟩:=h
 obtain⟨t,rfl⟩:=rx
 obtain⟨t',rfl⟩:=ry
 exact rule i j t t' s _ _ ⟨.int (g i j),H,I.tok _,⟨_,rfl⟩,q⟩
theorem wM {f:Value→Value→Sem Value} {g:Int→Int→Bool}
  (rule:∀ (i j:Int) (t u:Tok) (s:Shared) (Q:Value→Shared→Prop) (E:Value→Shared→Prop),Q (.bool (g i j)) s→wpAny (model X.prog X.w) X.A (f (.int i t) (.int j u)) Q E s) :
  OpR X f (rI0 fun i j=>.bl (g i j)):=by
 intro pins s σ H x y v u Q I rx ry h
 obtain⟨i,j,rfl,rfl,q⟩:=h
 obtain⟨t,rfl⟩:=rx
 obtain⟨t',rfl⟩:=ry
 exact rule i j t t' s _ _ ⟨.bl (g i j),H,I,rfl,q⟩
def yG (i j:Int):Prop:=0<j∧j<1073741824
def ze (i j:Int):Prop:=0≤j∧j≤1000000∧i.natAbs<2 ^ 64
def vH (i j:Int):Prop:=(-(2 ^ 64)<i∧i<2 ^ 64)∨(-(2 ^ 64)<j∧j<2 ^ 64)
theorem vH.ok {i j:Int} (h:vH i j):IntMulOk i j:=by
 rcases h with ⟨h1,h2⟩ | ⟨h1,h2⟩
 ·exact .of_left (intBits_le_64 h1 h2)
 ·exact .of_right (intBits_le_64 h1 h2)
theorem gi:OpR X (binaryOp .Add) (rI0 fun i j=>.int (i+j)):=yh fun _ _ _ _ _ _ _ q=>add_int q
theorem wL:OpR X (binaryOp .Sub) (rI0 fun i j=>.int (i-j)):=yh fun _ _ _ _ _ _ _ q=>sub_int q
theorem nQ:OpR X (binaryOp .Mult) (rI vH fun i j=>.int (i*j)):=opI fun _ _ _ _ _ _ _ hc q=>mul_int q hc.ok
theorem uP:OpR X (binaryOp .FloorDiv) (rI yG fun i j=>.int (i / j)):=opI fun i j _ _ _ _ _ hc q=>by
 have h1:(0:Int)<j:=hc.1
 have h2:j<1073741824:=hc.2
 exact floordiv_int (by omega) (by rw [Int.fdiv_eq_ediv_of_nonneg i (by omega)]; exact q) (.inl (PyProof.noPylong_small (by omega)))
theorem kJ:OpR X (binaryOp .Mod) (rI (fun _ j=>0<j) fun i j=>.int (i % j)):=opI fun i j _ _ _ _ _ hc q=>by
 have h1:(0:Int)<j:=hc
 exact mod_int' (by omega) (by rw [Int.fmod_eq_emod_of_nonneg i (by omega)]; exact q)
theorem rS:OpR X (binaryOp .Pow) (rI ze fun i j=>.int (i ^ j.toNat)):=opI fun _ _ _ _ _ _ _ hc q=>pow_int_small hc.1 hc.2.1 hc.2.2 q
theorem u9:OpR X (inplaceOp .Mult) (rI vH fun i j=>.int (i*j)):=opI fun _ _ _ _ _ _ _ hc q=>imul_int q hc.ok
theorem unI {f:Value→Sem Value} {g:Int→Int}
  (rule:∀ (i:Int) (t:Tok) (s:Shared) (Q:Value→Shared→Prop) (E:Value→Shared→Prop),Q (.int (g i) s.toks) {s with toks:=s.toks+1}→wpAny (model X.prog X.w) X.A (f (.int i t)) Q E s) :
  UnR X f (rU fun i=>.int (g i)):=by
 intro pins s σ H x v Q I rx h
 obtain⟨i,rfl,q⟩:=h
 obtain⟨t,rfl⟩:=rx
 exact rule i t s _ _ ⟨.int (g i),H,I.tok _,⟨_,rfl⟩,q⟩
theorem qV:UnR X (unaryOp .USub) (rU fun i=>.int (-i)):=unI fun _ _ _ _ _ q=>neg_int q
end
def xQ:V→V→Bool
 | .non,.non=>true | .non,.int _=>true | .int _,.non=>true | .non,.bl _=>true | .bl _,.non=>true | .non,.str _=>true | .str _,.non=>true
 | .int _,.int _=>true | .bl _,.bl _=>true | .str _,.str _=>true | .byt _,.byt _=>true
 | .int _,.str _=>true | .str _,.int _=>true | .bl _,.str _=>true | .str _,.bl _=>true
 | _,_=>false
def rEq:R2:=fun x y H Q=>xQ x y=true∧Q (.bl (decide (x=y))) H
def rNe:R2:=fun x y H Q=>xQ x y=true∧Q (.bl (!decide (x=y))) H
theorem pH {i j:Int}:decide (V.int i=V.int j)=(i==j):=by
 rw [Bool.eq_iff_iff]
 simp
theorem tU {i j:Bool}:decide (V.bl i=V.bl j)=(i==j):=by
 rw [Bool.eq_iff_iff]
 simp
theorem pF {i j:Str}:decide (V.str i=V.str j)=(i==j):=by
 rw [Bool.eq_iff_iff]
 simp
theorem pI {i j:Array UInt8}:decide (V.byt i=V.byt j)=(i.toList==j.toList):=by
 rw [Bool.eq_iff_iff]
 cases i
 cases j
 simp
section
variable {X:Cx} {a b c:Expr} {ta tb tc:TE} {pos:Pos}
theorem bi {pins:List (Addr×Obj)} {σ:St} {H:Hp} {s:Shared} {Q:VK} {k k':Bool} (I:Inv X pins σ H s) (q:Q (.bl k) H) (e:k=k'):EP X pins σ Q (.bool k') s:=by
 subst e
 exact⟨.bl k,H,I,rfl,q⟩
theorem pv:OpR X (compareOp .Eq) rEq:=by
 intro pins s σ H x y v u Q I rx ry h
 obtain⟨hs,q⟩:=h
 cases x with
 | non=>
  cases rx
  cases y with
  | non=>cases ry; exact PySem.EqNone.eq_none_none (bi I q (by simp))
  | bl j=>cases ry; exact PySem.EqNone.eq_none_bool (bi I q (by simp))
  | int j=>obtain⟨t',rfl⟩:=ry; exact PySem.EqNone.eq_none_int (bi I q (by simp))
  | str j=>obtain⟨t',rfl⟩:=ry; exact PySem.EqNone.eq_none_str (bi I q (by simp))
  | _=>exact absurd (show false=true from hs) Bool.false_ne_true
 | bl i=>
  cases rx
  cases y with
  | non=>cases ry; exact PySem.EqNone.eq_bool_none (bi I q (by simp))
  | bl j=>cases ry; exact eq_bool (bi I q tU)
  | str j=>obtain⟨t',rfl⟩:=ry; exact PySem.EqMixed.eq_bool_str (bi I q (by simp))
  | _=>exact absurd (show false=true from hs) Bool.false_ne_true
 | int i=>
  obtain⟨t,rfl⟩:=rx
  cases y with
  | non=>cases ry; exact PySem.EqNone.eq_int_none (bi I q (by simp))
  | int j=>obtain⟨t',rfl⟩:=ry; exact eq_int (bi I q pH)
  | str j=>obtain⟨t',rfl⟩:=ry; exact PySem.EqMixed.eq_int_str (bi I q (by simp))
  | _=>exact absurd (show false=true from hs) Bool.false_ne_true
 | str i=>
  obtain⟨t,rfl⟩:=rx
  cases y with
  | non=>cases ry; exact PySem.EqNone.eq_str_none (bi I q (by simp))
  | bl j=>cases ry; exact PySem.EqMixed.eq_str_bool (bi I q (by simp))
  | int j=>obtain⟨t',rfl⟩:=ry; exact PySem.EqMixed.eq_str_int (bi I q (by simp))
  | str j=>obtain⟨t',rfl⟩:=ry; exact eq_str (bi I q pF)
  | _=>exact absurd (show false=true from hs) Bool.false_ne_true
 | byt i=>
  obtain⟨t,rfl⟩:=rx
  cases y with
  | byt j=>obtain⟨t',rfl⟩:=ry; exact PySem.W.eq_bytes (bi I q pI)
  | _=>exact absurd (show false=true from hs) Bool.false_ne_true
 | _=>cases y <;> exact absurd (show false=true from hs) Bool.false_ne_true
theorem lX:OpR X (compareOp .NotEq) rNe:=by
 intro pins s σ H x y v u Q I rx ry h
 obtain⟨hs,q⟩:=h
 cases x with
 | non=>
  cases rx
  cases y with
  | non=>cases ry; exact PySem.EqNone.ne_none_none (bi I q (by simp))
  | bl j=>cases ry; exact PySem.EqNone.ne_none_bool (bi I q (by simp))
  | int j=>obtain⟨t',rfl⟩:=ry; exact PySem.EqNone.ne_none_int (bi I q (by simp))
  | str j=>obtain⟨t',rfl⟩:=ry; exact PySem.EqNone.ne_none_str (bi I q (by simp))
  | _=>exact absurd (show false=true from hs) Bool.false_ne_true
 | bl i=>
  cases rx
  cases y with
  | non=>cases ry; exact PySem.EqNone.ne_bool_none (bi I q (by simp))
  | bl j=>cases ry; exact ne_bool (bi I q (congrArg not tU))
  | str j=>obtain⟨t',rfl⟩:=ry; exact PySem.EqMixed.ne_bool_str (bi I q (by simp))
  | _=>exact absurd (show false=true from hs) Bool.false_ne_true
 | int i=>
  obtain⟨t,rfl⟩:=rx
  cases y with
  | non=>cases ry; exact PySem.EqNone.ne_int_none (bi I q (by simp))
  | int j=>obtain⟨t',rfl⟩:=ry; exact ne_int (bi I q (congrArg not pH))
  | str j=>obtain⟨t',rfl⟩:=ry; exact PySem.EqMixed.ne_int_str (bi I q (by simp))
  | _=>exact absurd (show false=true from hs) Bool.false_ne_true
 | str i=>
  obtain⟨t,rfl⟩:=rx
  cases y with
  | non=>cases ry; exact PySem.EqNone.ne_str_none (bi I q (by simp))
  | bl j=>cases ry; exact PySem.EqMixed.ne_str_bool (bi I q (by simp))
  | int j=>obtain⟨t',rfl⟩:=ry; exact PySem.EqMixed.ne_str_int (bi I q (by simp))
  | str j=>obtain⟨t',rfl⟩:=ry; exact ne_str (bi I q (congrArg not pF))
  | _=>exact absurd (show false=true from hs) Bool.false_ne_true
 | byt i=>
  obtain⟨t,rfl⟩:=rx
  cases y with
  | byt j=>obtain⟨t',rfl⟩:=ry; exact PySem.W.ne_bytes (bi I q (congrArg not pI))
  | _=>exact absurd (show false=true from hs) Bool.false_ne_true
 | _=>cases y <;> exact absurd (show false=true from hs) Bool.false_ne_true
theorem yg:OpR X (compareOp .Lt) (rI0 fun i j=>.bl (decide (i<j))):=wM fun _ _ _ _ _ _ _ q=>lt_int q
theorem f9:OpR X (compareOp .LtE) (rI0 fun i j=>.bl (decide (i≤j))):=wM fun _ _ _ _ _ _ _ q=>le_int q
theorem rX:OpR X (compareOp .Gt) (rI0 fun i j=>.bl (decide (j<i))):=wM fun _ _ _ _ _ _ _ q=>gt_int q
theorem qd:OpR X (compareOp .In) (fun x y H Q=>∃ i j,x=.str i∧y=.str j∧Q (.bl (!(Builtin.Str.occurrences j i 0 j.length 1).isEmpty)) H):=by
 intro pins s σ H x y v u Q I rx ry h
 obtain⟨i,j,rfl,rfl,q⟩:=h
 obtain⟨t,rfl⟩:=rx
 obtain⟨t',rfl⟩:=ry
 exact in_str (bi I q rfl)
theorem ck (b:Expr) {op:CmpOp} (h:op≠.In:=by decide) (h2:op≠.NotIn:=by decide):behindInMarks op b=false:=by
 have e1:(op==CmpOp.In)=false:=by cases op <;> first | rfl | exact absurd rfl h
 have e2:(op==CmpOp.NotIn)=false:=by cases op <;> first | rfl | exact absurd rfl h2
 cases b <;> simp [behindInMarks,e1,e2]
theorem iN {op:CmpOp} {r:R2} (ho:OpR X (compareOp op) r) (ha:PE X a ta) (hb:PE X b tb) (hm:behindInMarks op b=false):PE X (.Compare a [op] [b] pos) (tOp r ta tb):=by
 intro pins s σ H Q I h
 exact wpAny_Compare1 (xh ha hb I h fun v u s2 x y H2 I2 rx ry q=>ho pins s2 σ H2 x y v u Q I2 rx ry q) hm
def vJ (t:TE):TT:=fun σ H Q=>t σ H fun x H'=>∃ k,x=.bl k∧Q k H'
theorem bO {op:CmpOp} {r:R2} (ho:OpR X (compareOp op) r) (ha:PE X a ta) (hb:PE X b tb) (hm:behindInMarks op b=false):PT X (.Compare a [op] [b] pos) (vJ (tOp r ta tb)):=by
 intro pins s σ H Q I h
 refine wpAny_isTrue_Compare1 (thn (ha pins s σ H _ I h) fun v s1 ⟨x,H1,I1,r1,q1⟩=>thn (hb pins s1 σ H1 _ I1 q1) fun u s2 ⟨y,H2,I2,r2,q2⟩=>
  thn (ho pins s2 σ H2 x y v u _ I2 r1 r2 q2) fun c s3 ⟨z,H3,I3,r3,k,e,q3⟩=>?_) hm
 subst e
 cases r3
 exact wpAny_truthy_bool ⟨H3,I3,q3⟩
def wu (r r':R2) (ta tb tc:TE):TE:=fun σ H Q=>ta σ H fun x H1=>tb σ H1 fun y H2=>r x y H2 fun z H3=>∃ k,z=.bl k∧
 (if k=true then tc σ H3 fun w' H4=>r' y w' H4 Q else Q (.bl false) H3)
theorem gD {op op':CmpOp} {r r':R2} (ho:OpR X (compareOp op) r) (ho':OpR X (compareOp op') r') (ha:PE X a ta) (hb:PE X b tb) (hc:PE X c tc)
  (hm:lastMarks [op,op'] [b,c]=false:=by with_unfolding_all rfl):PT X (.Compare a [op,op'] [b,c] pos) (vJ (wu r r' ta tb tc)):=by
 intro pins s σ H Q I h
 refine isTrue_chain (thn (ha pins s σ H _ I h) fun v s1 ⟨x,H1,I1,r1,q1⟩=>test_link (thn (hb pins s1 σ H1 _ I1 q1) fun u s2 ⟨y,H2,I2,r2,q2⟩=>
  thn (ho pins s2 σ H2 x y v u _ I2 r1 r2 q2) fun d s3 ⟨z,H3,I3,r3,k,e,q3⟩=>?_)) hm
 subst e
 cases r3
 refine wpAny_truthy_bool ?_
 cases k with
 | false=>
  obtain⟨k',e',q'⟩:=q3
  cases e'
  exact ite_ff ⟨H3,I3,q'⟩
 | true=>
  refine ite_tt (test_last (thn (hc pins s3 σ H3 _ I3 q3) fun w' s4 ⟨z',H4,I4,r4,q4⟩=>thn (ho' pins s4 σ H4 y z' u w' _ I4 r2 r4 q4) fun d' s5 ⟨z2,H5,I5,r5,k2,e2,q5⟩=>?_))
  subst e2
  cases r5
  exact wpAny_truthy_bool ⟨H5,I5,q5⟩
theorem jj:(sizeLine:Nat)<2 ^ 63:=by rw [sizeLine_eq]; decide
theorem eB {x:V} {us:List Value} (r:aI [x] us):∃ u,us=[u]∧aM x u:=by
 cases r with
 | cons r1 r2=>cases r2; exact⟨_,rfl,r1⟩
theorem io {x y:V} {us:List Value} (r:aI [x,y] us):∃ u w',us=[u,w']∧aM x u∧aM y w':=by
 cases r with
 | cons r1 r2=>
  cases r2 with
  | cons r3 r4=>cases r4; exact⟨_,_,rfl,r1,r3⟩
theorem mU:cX X (.builtin "abs") (fun xs H Q=>∃ i,xs=[.int i]∧Q (.int (if i<0 then -i else i)) H):=by
 intro pins s σ H xs us Q I r h
 obtain⟨i,rfl,q⟩:=h
 obtain⟨u,rfl,t,rfl⟩:=eB r
 exact call_abs_int fun u tk=>⟨.int (if i<0 then -i else i),H,I.tok _,⟨_,rfl⟩,q⟩
theorem qL (hc:X.calm=true):cX X (.builtin "max") (fun xs H Q=>∃ i j,xs=[.int i,.int j]∧Q (.int (if j > i then j else i)) H):=by
 intro pins s σ H xs us Q I r h
 obtain⟨i,j,rfl,q⟩:=h
 obtain⟨u,w',rfl,⟨t,rfl⟩,⟨t',rfl⟩⟩:=io r
 refine max_two_ints (I.ok.hd hc) fun h' tk k=>⟨_,H,I.kept k,?_,q⟩
 by_cases hj:j > i
 ·rw [if_pos hj,if_pos hj]; exact⟨_,rfl⟩
 ·rw [if_neg hj,if_neg hj]; exact⟨_,rfl⟩
theorem mT:cX X (.builtin "divmod") (fun xs H Q=>∃ i j,xs=[.int i,.int j]∧yG i j∧∀ p,H p=none→Q (.ref p) (upd H p (.tup [.int (i / j),.int (i % j)]))):=by
 intro pins s σ H xs us Q I r h
 obtain⟨i,j,rfl,⟨h1,h2⟩,q⟩:=h
 obtain⟨u,w',rfl,⟨t,rfl⟩,⟨t',rfl⟩⟩:=io r
 refine divmod_int (by omega) ?_ (.inl (PyProof.noPylong_small (by omega)))
 rw [Int.fdiv_eq_ediv_of_nonneg i (by omega),Int.fmod_eq_emod_of_nonneg i (by omega)]
 have hn:H s.heap.objs.size=none:=I.hok.fresh (Nat.le_refl _)
 refine⟨.ref s.heap.objs.size,_,?_,rfl,q _ hn⟩
 refine I.laid (fun b o e=>Heap.get?_push_of_some _ e) (Nat.le_refl _) ⟨by simp only [List.length_cons,List.length_nil]; rw [sizeLine_eq]; decide,[.int (i / j) s.toks,.int (i % j) (s.toks+1)],.cons ⟨_,rfl⟩ (.cons ⟨_,rfl⟩ .nil),?_⟩
 exact⟨_,Heap.get?_push_size s.heap rfl,rfl,0,rfl⟩
end
structure oH (h:Heap) (x dx C:Addr) (mA:Str→Option Value):Prop where
 obj:h.get? x=some (PySem.W.instObj C dx)
 ns:h.Ns1 dx mA
 ne:dx≠x
theorem qm {h:Heap} {dx:Addr} {mA:Str→Option Value} (n:h.Ns1 dx mA):∃ od,h.get? dx=some od∧∀ name,PySem.W.lookIn name od=some (mA name):=by
 obtain⟨o,es,ep,ho,hd,hk,_,hm⟩:=n
 refine⟨o,ho,fun name=>?_⟩
 have e:=hm name
 unfold nsFind findBy at e
 rw [← Array.find?_toList] at e
 unfold PySem.W.lookIn
 rw [hd]
 dsimp only
 split
 ·rename_i y q
  rw [q] at e
  exact congrArg some e
 ·rename_i q
  rw [q] at e
  have a:es.toList.any (·.refKey)=false:=by
   rw [List.any_eq_false]
   intro y hy
   obtain⟨z,t,hkey⟩:=hk y (Array.mem_toList_iff.mp hy)
   simp [DictEntry.refKey,hkey]
  have a':¬ es.toList.any (·.refKey)=true:=by rw [a]; exact Bool.false_ne_true
  rw [if_neg a']
  exact congrArg some e
theorem oH.look {h:Heap} {x dx C:Addr} {mA:Str→Option Value} (I:oH h x dx C mA):∃ od,PySem.W.InstAt h x (PySem.W.instObj C dx) C (some od)∧∀ name,PySem.W.lookIn name od=some (mA name):=
 let ⟨od,ho,hl⟩:=qm I.ns
 ⟨od,⟨I.obj,rfl,rfl,ho⟩,hl⟩
section
variable {prog:Program} {w:World} {A:Around} {E:Value→Shared→Prop} {s:Shared} {K:PySem.W.Frag} {x dx C f:Addr} {mA:Str→Option Value} {name:Str} {v:Value}
theorem vb {expr:Bool} {Q:Value→Shared→Prop} (X:K.In s.heap) (I:oH s.heap x dx C mA) (hg:PySem.W.plainGet K C name=true) (hh:PySem.W.hasDictIn K C=true)
  (ha:PySem.W.findIn K (.ref C) name=some none) (hv:mA name=some v) (hv':PySem.W.handedIn v=true) (h:Q v {s with toks:=s.toks+1}) :
  wpAny (model prog w) A (getAttr (.ref x) name expr) Q E s:=by
 obtain⟨od,J,hl⟩:=I.look
 exact PySem.W.get_value X J (PySem.W.plainGet_of hg).1 (PySem.W.findObj_own hh ha rfl (by rw [hl,hv])) hv' h
theorem tu {pl:Sem Bool} {Q:Value×List Value→Shared→Prop} (X:K.In s.heap) (I:oH s.heap x dx C mA) (hg:PySem.W.plainGet K C name=true)
  (hf:PySem.W.findIn K (.ref C) name=some (some (.ref f))) (ht:PySem.W.isFn K (.ref f)=true) (hv:mA name=none) (h:Q (.ref f,[.ref x]) s) :
  wpAny (model prog w) A (getMethod (.ref x) name pl) Q E s:=by
 obtain⟨od,J,hl⟩:=I.look
 exact PySem.W.method_fn X J (PySem.W.plainGet_of hg).1 (PySem.W.plainGet_of hg).2 hf (beq_iff_eq.mp ht) (by show (PySem.W.lookIn name od).map (·.isSome)=some false; rw [hl,hv]; rfl) h
theorem uE {ns:List Str} {Q:Unit→Shared→Prop} (X:K.In s.heap) (I:oH s.heap x dx C mA)
  (hs:PySem.W.findIn K (.ref C) "__setattr__"=some (some (.builtin "object.__setattr__"))) (hp:PySem.W.plainOver K C=true) (ht:PySem.W.takerIn K C name=some none) (hh:PySem.W.hasDictIn K C=true)
  (hw:PySem.Within mA ns) (hsz:ns.length≤sizeLine)
  (h:∀ h',oH h' x dx C (fun y=>if y=name then some v else mA y)→Heap.SameBut dx s.heap h'→Q () {s with heap:=h',toks:=s.toks+2}) :
  wpAny (model prog w) A (setAttr (.ref x) name v) Q E s:=by
 obtain⟨od,J,hl⟩:=I.look
 refine PySem.W.set_plain X J hs (PySem.W.osa_open (s:={s with toks:=s.toks+1}) (r:=none) X J hp ht fun b=>?_)
 obtain⟨cd,hc,hd'⟩:=PySem.W.any_some hh
 have hx:s.heap.get? x=some ⟨.ref C,some dx,.plain,#[]⟩:=I.obj
 refine wpAny_bind (wpAny_pure (wpAny_bind (wpAny_bind (wpAny_loadPart hx (wpAny_bind (PySem.W.Looks.here (s:={s with toks:=s.toks+1}) (PySem.W.looks_clsIn X hc) ?_))))))
 rw [hd']
 refine wpAny_pure (a:=some dx) (wpAny_bind (wpAny_pure (wpAny_bind ?_)))
 refine wpAny_nsSet1 (s:={s with toks:=s.toks+1}) I.ns fun h' hn2 hs2=>?_
 obtain⟨oD,esD,epD,hoD,hdD,hcD⟩:=hn2.count (PySem.Within.cons name v hw)
 refine wpAny_bind (wpAny_lookBehind hoD (by rw [hdD]; exact pastItsLine_dict (Nat.le_trans hcD (by rw [List.length_cons]; omega))) ?_)
 exact wpAny_pure (h _ ⟨(hs2.2 _ (Ne.symm I.ne)).trans I.obj,hn2,I.ne⟩ hs2)
theorem sL {R:Result→Shared→Prop} {vs:List Value} {kw:List (Str×Value)} (X:K.In s.heap) (hm:PySem.W.makesIn K C=true)
  (hi:PySem.W.findIn K (.ref C) "__init__"=some (some (.ref f))) (hf:PySem.W.typeIn K (.ref f)=some (.type "function"))
  (h:codeAny (model prog w) (A.under (.builtin "type.__call__" ⟨.ref C::vs,kw⟩)) (.call (.ref f) ⟨.ref (s.heap.objs.size+1)::vs,kw⟩) (PySem.W.InitBack (s.heap.objs.size+1) R)
   {s with heap:=(s.heap.push PySem.W.emptyDict).push (PySem.W.instObj C s.heap.objs.size)}) :
  codeAny (model prog w) A (.call (.ref C) ⟨vs,kw⟩) R s:=by
 obtain⟨hh,g,d,t,os⟩:=s
 exact PySem.W.make_core (PySem.W.makes_of X hm) (PySem.W.looks_findIn X hi) (fun self=>PySem.W.bind_fn X self hf) (.inl rfl) h
end
def dw (f:Str) (v:V):List (Str×V)→List (Str×V)
 | []=>[(f,v)]
 | (g,x)::r=>if g=f then (g,v)::r else (g,x)::dw f v r
theorem bf (f g:Str) (v:V):∀ fs:List (Str×V),(dw f v fs).lookup g=if g=f then some v else fs.lookup g
 | []=>by
  show List.lookup g [(f,v)]=_
  by_cases h:g=f
  ·have hb:(g==f)=true:=beq_iff_eq.mpr h
   simp only [List.lookup,hb,if_pos h]
  ·have hb:(g==f)=false:=beq_eq_false_iff_ne.mpr h
   simp only [List.lookup,hb,if_neg h]
 | (k,x)::r=>by
  have ih:=bf f g v r
  rw [show dw f v ((k,x)::r)=(if k=f then (k,v)::r else (k,x)::dw f v r) from rfl]
  by_cases hk:k=f
  ·rw [if_pos hk]
   by_cases h:g=k
   ·have hb:(g==k)=true:=beq_iff_eq.mpr h
    simp only [List.lookup,hb,if_pos (h.trans hk)]
   ·have hb:(g==k)=false:=beq_eq_false_iff_ne.mpr h
    simp only [List.lookup,hb,if_neg (fun e:g=f=>h (e.trans hk.symm))]
  ·rw [if_neg hk]
   by_cases h:g=k
   ·have hb:(g==k)=true:=beq_iff_eq.mpr h
    simp only [List.lookup,hb,if_neg (fun e:g=f=>hk (h.symm.trans e))]
   ·have hb:(g==k)=false:=beq_eq_false_iff_ne.mpr h
    simp only [List.lookup,hb]
    exact ih
theorem hV (f:Str) (v:V):∀ fs:List (Str×V),f∈(dw f v fs).map (·.1)∧∀ g,g∈fs.map (·.1)→g∈(dw f v fs).map (·.1)
 | []=>⟨by simp [dw],fun g h=>by simp at h⟩
 | (k,x)::r=>by
  obtain⟨i1,i2⟩:=hV f v r
  rw [show dw f v ((k,x)::r)=(if k=f then (k,v)::r else (k,x)::dw f v r) from rfl]
  by_cases hk:k=f
  ·rw [if_pos hk]
   subst hk
   exact⟨by simp,fun g h=>by simpa using h⟩
  ·rw [if_neg hk]
   refine⟨?_,fun g h=>?_⟩
   ·rw [List.map_cons]
    exact List.mem_cons_of_mem _ i1
   ·rw [List.map_cons] at h ⊢
    rcases List.mem_cons.mp h with e | e
    ·exact List.mem_cons.mpr (.inl e)
    ·exact List.mem_cons_of_mem _ (i2 g e)
theorem cV (f:Str) (v:V):∀ fs:List (Str×V),(dw f v fs).length≤fs.length+1
 | []=>by simp [dw]
 | (k,x)::r=>by
  have ih:=cV f v r
  rw [show dw f v ((k,x)::r)=(if k=f then (k,v)::r else (k,x)::dw f v r) from rfl]
  by_cases hk:k=f
  ·rw [if_pos hk,List.length_cons,List.length_cons]; omega
  ·rw [if_neg hk,List.length_cons,List.length_cons]; omega
theorem fK.some_of {v:V} {o:Option Value} (r:fK (some v) o):∃ u,o=some u∧aM v u:=by
 cases o with
 | none=>exact(show False from r).elim
 | some u=>exact⟨u,rfl,r⟩
theorem fK.none_of {o:Option Value} (r:fK none o):o=none:=by
 cases o with
 | none=>rfl
 | some u=>exact(show False from r).elim
theorem qz {v:V} {u:Value} (r:aM v u):PySem.W.handedIn u=true:=by
 cases v with
 | non=>cases (show u=Value.none from r); rfl
 | bl b=>cases (show u=Value.bool b from r); rfl
 | int i=>obtain⟨t,e⟩:=(show ∃ t,u=Value.int i t from r); cases e; rfl
 | str x=>obtain⟨t,e⟩:=(show ∃ t,u=Value.str x t from r); cases e; rfl
 | byt b=>obtain⟨t,e⟩:=(show ∃ t,u=Value.bytes b t from r); cases e; rfl
 | flt b=>obtain⟨t,e⟩:=(show ∃ t,u=Value.float b t from r); cases e; rfl
 | ref a=>cases (show u=Value.ref a from r); rfl
 | ty n=>cases (show u=Value.type n from r); rfl
section
variable {P:Program} {w:World} {H H':Hp} {h h':Heap} {a C dx:Addr} {fs fs':List (Str×V)}
theorem gI (hok:HOk P w H h) (e:H a=some (.ins C dx fs)):∃ mA,oH h a dx C mA∧(∀ f,fK (fs.lookup f) (mA f))∧PySem.Within mA (fs.map (·.1))∧fs.length≤1000∧H dx=some (.own a):=by
 obtain⟨d,z,ne,ob,mA,n,r,q⟩:=(show bh P w H h a (.ins C dx fs) from hok a _ e)
 exact⟨mA,⟨ob,n,ne⟩,r,q,z,d⟩
end
structure Cls (K:PySem.W.Frag) (C:Addr):Prop where
 pg:PySem.W.plainGet K C Str.empty=true
 hd:PySem.W.hasDictIn K C=true
 po:PySem.W.plainOver K C=true
 sa:PySem.W.findIn K (.ref C) "__setattr__"=some (some (.builtin "object.__setattr__"))
theorem Cls.get {K:PySem.W.Frag} {C:Addr} (c:Cls K C) (f:Str):PySem.W.plainGet K C f=true:=c.pg
def d9 (K:PySem.W.Frag) (C:Addr) (f:Str):Prop:=PySem.W.findIn K (.ref C) f=some none
theorem d9.taker {K:PySem.W.Frag} {C:Addr} {f:Str} (n:d9 K C f):PySem.W.takerIn K C f=some none:=by
 unfold PySem.W.takerIn
 rw [show PySem.W.findIn K (.ref C) f=some none from n]
 rfl
structure oJ (K:PySem.W.Frag) (C:Addr) (m:Str) (f:Addr):Prop where
 at_:PySem.W.findIn K (.ref C) m=some (some (.ref f))
 fn:PySem.W.isFn K (.ref f)=true
 kp:PySem.W.keepIn K (.ref f)=true
section
variable {X:Cx} {pins:List (Addr×Obj)} {σ:St} {H:Hp} {s:Shared} {a C dx:Addr} {fs:List (Str×V)} {f:Str} {v:V} {A:Around} {E:Value→Shared→Prop}
theorem oz {b:Bool} {Q:Value→Shared→Prop} (I:Inv X pins σ H s) (e:H a=some (.ins C dx fs)) (c:Cls X.K C) (n:d9 X.K C f) (l:fs.lookup f=some v)
  (h:∀ u s',Inv X pins σ H s'→aM v u→Q u s'):wpAny (model X.prog X.w) A (getAttr (.ref a) f b) Q E s:=by
 obtain⟨mA,O,r,_,_,_⟩:=gI I.hok e
 obtain⟨u,hu,ru⟩:=fK.some_of (v:=v) (o:=mA f) (by rw [← l]; exact r f)
 exact vb I.kIn O (c.get f) c.hd n hu (qz ru) (h u _ (I.tok _) ru)
theorem oy {m:Str} {g:Addr} {pl:Sem Bool} {Q:Value×List Value→Shared→Prop} (I:Inv X pins σ H s) (e:H a=some (.ins C dx fs)) (c:Cls X.K C) (k:oJ X.K C m g) (l:fs.lookup m=none)
  (h:Q (.ref g,[.ref a]) s):wpAny (model X.prog X.w) A (getMethod (.ref a) m pl) Q E s:=by
 obtain⟨mA,O,r,_,_,_⟩:=gI I.hok e
 have hn:mA m=none:=fK.none_of (by rw [← l]; exact r m)
 exact tu I.kIn O (c.get m) k.at_ k.fn hn h
theorem nv {y:V} {u:Value} {Q:Unit→Shared→Prop} (I:Inv X pins σ H s) (e:H a=some (.ins C dx fs)) (c:Cls X.K C) (n:d9 X.K C f) (hl:fs.length<1000) (ry:aM y u)
  (h:∀ s',Inv X pins σ (upd H a (.ins C dx (dw f y fs))) s'→Q () s'):wpAny (model X.prog X.w) A (setAttr (.ref a) f u) Q E s:=by
 obtain⟨mA,O,r,wi,_,ho⟩:=gI I.hok e
 have hz:(fs.map (·.1)).length≤sizeLine:=by rw [List.length_map,sizeLine_eq]; omega
 refine uE I.kIn O c.sa c.po n.taker c.hd wi hz fun h' O' sb=>h _ ?_
 have hd:∃ o,h'.get? dx=some o:=let ⟨o,_,_,e',_⟩:=O'.ns; ⟨o,e'⟩
 refine I.write (x:=a) (e:=dx) (by rw [e]; exact True.intro) (.inr ho) (fun b q hb z=>(sb.2 b hb).trans z) hd ?_
 refine⟨by rw [ag O.ne]; exact ho,?_,O.ne,O'.obj,_,O'.ns,fun g=>?_,fun g hg=>?_⟩
 ·have:=cV f y fs; omega
 ·show fK ((dw f y fs).lookup g) (if g=f then some u else mA g)
  rw [bf]
  by_cases q:g=f
  ·rw [if_pos q,if_pos q]; exact ry
  ·rw [if_neg q,if_neg q]; exact r g
 ·by_cases q:g=f
  ·rw [q]; exact(hV f y fs).1
  ·refine(hV f y fs).2 g (wi g fun z=>hg ?_)
   show (if g=f then some u else mA g)=none
   rw [if_neg q]; exact z
theorem Inv.made (I:Inv X pins σ H s):Inv X pins σ (upd (upd H s.heap.objs.size (.own (s.heap.objs.size+1))) (s.heap.objs.size+1) (.ins C s.heap.objs.size []))
  {s with heap:=(s.heap.push PySem.W.emptyDict).push (PySem.W.instObj C s.heap.objs.size)}:=by
 have e1:(s.heap.push PySem.W.emptyDict).get? s.heap.objs.size=some PySem.W.emptyDict:=Heap.get?_push_size s.heap rfl
 have e2:((s.heap.push PySem.W.emptyDict).push (PySem.W.instObj C s.heap.objs.size)).get? (s.heap.objs.size+1)=some (PySem.W.instObj C s.heap.objs.size):=by
  have:=Heap.get?_push_size (s.heap.push PySem.W.emptyDict) (o:=PySem.W.instObj C s.heap.objs.size) rfl
  rwa [Heap.size_push] at this
 have e3:(s.heap.push PySem.W.emptyDict).Ns s.heap.objs.size (fun _=>none):=⟨PySem.W.emptyDict,#[],_,e1,rfl,(fun e he=>absurd he (by simp)),fun _=>rfl⟩
 have I1:=I.laid (a:=s.heap.objs.size) (o:=.own (s.heap.objs.size+1)) (h':=s.heap.push PySem.W.emptyDict) (t':=s.toks) (fun b u q=>Heap.get?_push_of_some _ q) (Nat.le_refl _) ⟨_,e1⟩
 refine I1.laid (a:=s.heap.objs.size+1) (o:=.ins C s.heap.objs.size []) (t':=s.toks) (fun b u q=>Heap.get?_push_of_some _ q) (Nat.le_of_eq (Heap.size_push _ _)) ?_
 have ne:s.heap.objs.size≠s.heap.objs.size+1:=Nat.ne_of_lt (Nat.lt_succ_self _)
 refine⟨by rw [ag ne,ac],Nat.zero_le _,ne,e2,fun _=>none,(Heap.Ns1.of_empty e3).at fun o q=>Heap.get?_push_of_some _ q,fun _=>True.intro,fun y hy=>absurd rfl hy⟩
theorem vv {prog:Program} {w:World} {env:Env} {e:Expr} {f:Str} {pos:Pos} {s:Shared} {Q:Value→Shared→Prop} (hb:attributeBase e f env (eval e env)=eval e env)
  (h:wpAny (model prog w) A (eval e env) (fun o s₁=>wpAny (model prog w) A (getAttr o f true) Q E s₁) E s):wpAny (model prog w) A (eval (.Attribute e f pos) env) Q E s:=
 Attribute_any_ h (by rw [arm_eval_Attribute,hb])
end
def yM (K:PySem.W.Frag) (ta:TE) (f:Str):TE:=fun σ H Q=>ta σ H fun x H1=>∃ a C dx fs v,x=.ref a∧H1 a=some (.ins C dx fs)∧Cls K C∧d9 K C f∧fs.lookup f=some v∧Q v H1
def yP (K:PySem.W.Frag) (ta tv:TE) (f:Str):TS:=fun D σ H=>tv σ H fun y H1=>ta σ H1 fun x H2=>∃ a C dx fs,x=.ref a∧H2 a=some (.ins C dx fs)∧Cls K C∧d9 K C f∧fs.length<1000∧
 D.nx σ (upd H2 a (.ins C dx (dw f y fs)))
section
variable {X:Cx} {o e value:Expr} {f:Str} {pos pos' tpos:Pos} {ta tv:TE}
theorem dA (he:PE X e ta) (hb:attributeBase e f X.env (eval e X.env)=eval e X.env):PE X (.Attribute e f pos) (yM X.K ta f):=by
 intro pins s σ H Q I h
 refine vv hb (thn (he pins s σ H _ I h) fun u s1 ⟨x,H1,I1,rx,a,C,dx,fs,v,ex,ea,c,n,l,q⟩=>?_)
 subst ex
 obtain rfl:u=Value.ref a:=rx
 exact oz I1 ea c n l fun u' s2 I2 ru=>⟨v,H1,I2,ru,q⟩
theorem i7 (ha:PE X o ta) (hv:PE X value tv) (hs:swapsWith value (some (.Attribute o f pos')) pos.line X.env=pure false):PS X (.Assign [.Attribute o f pos'] value pos) (yP X.K ta tv f):=by
 intro pins s σ H D I h
 refine plainObj_wpAny_Assign_Attribute (thn (hv pins s σ H _ I h) fun u s1 ⟨y,H1,I1,ry,q⟩=>thn (ha pins s1 σ H1 _ I1 q) fun ov s2 ⟨x,H2,I2,rx,a,C,dx,fs,ex,ea,c,n,l,q2⟩=>?_) hs
 subst ex
 obtain rfl:ov=Value.ref a:=rx
 exact nv I2 ea c n l ry fun s3 I3=>⟨σ,_,I3,q2⟩
end
section
variable {X:Cx} {pins:List (Addr×Obj)} {σ:St} {H:Hp} {s:Shared} {A:Around} {E:Value→Shared→Prop} {Q:Value→Shared→Prop} {c:Value} {b:Bool}
inductive eY (K:PySem.W.Frag) (H:Hp):V→Value→Prop where
 | non:eY K H .non (.type "NoneType")
 | bl (x:Bool):eY K H (.bl x) (.type "bool")
 | int (i:Int):eY K H (.int i) (.type "int")
 | str (x:Str):eY K H (.str x) (.type "str")
 | flt (x:UInt64):eY K H (.flt x) (.type "float")
 | lst {a:Addr} {xs:List V} (e:H a=some (.lst xs)):eY K H (.ref a) (.type "list")
 | frz {a:Addr} {o:Obj} {xs:List V} (e:H a=some (.frz o (.lst xs))):eY K H (.ref a) (.type "list")
 | tup {a:Addr} {xs:List V} (e:H a=some (.tup xs)):eY K H (.ref a) (.type "tuple")
 | dK {a:Addr} {kvs:List (Key×V)} (e:H a=some (.dK kvs)):eY K H (.ref a) (.type "dict")
 | dT {a:Addr} {kvs:List (List Key×V)} (e:H a=some (.dT kvs)):eY K H (.ref a) (.type "dict")
 | ins {a C dx:Addr} {fs:List (Str×V)} (e:H a=some (.ins C dx fs)) (cl:Cls K C) (ha:PySem.W.findIn K (.ref C) "__class__"=some (some (.builtin "object.__class__")))
   (hn:PySem.W.specialIn K (.builtin "object.__class__") "__get__"=some (some (.builtin "getset_descriptor.__get__"))) (htk:PySem.W.takesIn K (.builtin "object.__class__")=some true)
   (hm:PySem.W.mroIn K C (.type "object")=some true):eY K H (.ref a) (.ref C)
theorem qu {x:V} {u t:Value} (I:Inv X pins σ H s) (rx:aM x u) (ty:eY X.K H x t) (e:PySem.W.kitOne X.K t c=some b) (h:∀ tk,Q (.bool b) {s with toks:=tk}) :
  wpAny (model X.prog X.w) A (call (.builtin "isinstance") [u,c]) Q E s:=by
 cases ty with
 | non=>cases (show u=Value.none from rx); exact PySem.W.kia_one PySem.W.kitx_none I.kIn True.intro e (fun z=>nomatch z) h
 | bl y=>cases (show u=Value.bool y from rx); exact PySem.W.kia_one PySem.W.kitx_bool I.kIn True.intro e (fun z=>nomatch z) h
 | int i=>obtain⟨t,q⟩:=(show ∃ t,u=Value.int i t from rx); cases q; exact PySem.W.kia_one PySem.W.kitx_int I.kIn True.intro e (fun z=>nomatch z) h
 | str y=>obtain⟨t,q⟩:=(show ∃ t,u=Value.str y t from rx); cases q; exact PySem.W.kia_one PySem.W.kitx_str I.kIn True.intro e (fun z=>nomatch z) h
 | flt y=>obtain⟨t,q⟩:=(show ∃ t,u=Value.float y t from rx); cases q; exact PySem.W.kia_one PySem.W.kitx_float I.kIn True.intro e (fun z=>nomatch z) h
 | @lst a xs ea=>
  cases (show u=Value.ref a from rx)
  obtain⟨_,_,n,_,h1⟩:=(show bh X.prog X.w H s.heap a (.lst xs) from I.hok a _ ea)
  exact PySem.W.kia_one PySem.W.kitx_list I.kIn ⟨_,h1,rfl⟩ e (fun z=>nomatch z) h
 | @frz a ob xs ea=>
  cases (show u=Value.ref a from rx)
  obtain⟨_,_,_,n,_,h1⟩:=(show bh X.prog X.w H s.heap a (.frz ob (.lst xs)) from I.hok a _ ea)
  exact PySem.W.kia_one PySem.W.kitx_list I.kIn ⟨_,h1,rfl⟩ e (fun z=>nomatch z) h
 | @tup a xs ea=>
  cases (show u=Value.ref a from rx)
  obtain⟨_,_,_,p⟩:=(show bh X.prog X.w H s.heap a (.tup xs) from I.hok a _ ea)
  obtain⟨o,h1,h2,_⟩:=p
  exact PySem.W.kia_one PySem.W.kitx_tuple I.kIn ⟨o,h1,h2⟩ e (fun z=>nomatch z) h
 | @dK a kvs ea=>
  cases (show u=Value.ref a from rx)
  obtain⟨_,_,vs,_,p⟩:=(show bh X.prog X.w H s.heap a (.dK kvs) from I.hok a _ ea)
  obtain⟨o,es,ep,h1,h2,_⟩:=p
  exact PySem.W.kia_one PySem.W.kitx_dict I.kIn ⟨o,h1,h2.1⟩ e (fun z=>nomatch z) h
 | @dT a kvs ea=>
  cases (show u=Value.ref a from rx)
  obtain⟨_,_,xs,_,o,es,ep,h1,h2,_⟩:=(show bh X.prog X.w H s.heap a (.dT kvs) from I.hok a _ ea)
  exact PySem.W.kia_one PySem.W.kitx_dict I.kIn ⟨o,h1,h2.1⟩ e (fun z=>nomatch z) h
 | @ins a C dx fs ea cl ha hn htk hm=>
  cases (show u=Value.ref a from rx)
  obtain⟨mA,O,_⟩:=gI I.hok ea
  obtain⟨od,J,_⟩:=O.look
  exact PySem.W.kia_one (PySem.W.kitx_own (cl.get _) cl.hd ha hn htk hm) I.kIn J e (fun z=>nomatch z) h
end
structure bN (k:Nat) (A:Around):Prop where
 hd:A.handled=none
 gd:A.guards=some []
 dp:A.depth+3*k+5<recursionLimit
 un:A.units+16*k+200<cLine
theorem bN.mono {j k:Nat} {A:Around} (r:bN k A) (h:j≤k):bN j A:=⟨r.hd,r.gd,by have:=r.dp; omega,by have:=r.un; omega⟩
theorem bN.deeper {k:Nat} {A:Around} (r:bN (k+1) A) (env:Env):bN k (A.deeper env):=
 ⟨r.hd,r.gd,by have:=r.dp; show A.depth+1+3*k+5<_; omega,by have:=r.un; show A.units+3+16*k+200<_; omega⟩
theorem bN.in1 {k:Nat} {A:Around} (r:bN (k+1) A):bN k A.in1:=
 ⟨r.hd,r.gd,by have:=r.dp; show A.depth+3*k+5<_; omega,by have:=r.un; show A.units+1+16*k+200<_; omega⟩
theorem n5 {A:Around} {C:Addr} {us:List Value} {kw:List (Str×Value)}:(A.under (.builtin "type.__call__" ⟨.ref C::us,kw⟩)).depth=A.depth+1:=by
 first | rfl | simp [Around.under,Code.weight,Code.isCreation,Code.isGuard,Code.isCaller,Code.frames,Code.isFrame,guardIds]
theorem n3 {A:Around} {C:Addr} {us:List Value} {kw:List (Str×Value)}:(A.under (.builtin "type.__call__" ⟨.ref C::us,kw⟩)).units=A.units+1:=by
 first | rfl | simp [Around.under,Code.cUnits,Code.frames,Code.isFrame]
theorem mf {A:Around} {C:Addr} {us:List Value} {kw:List (Str×Value)}:(A.under (.builtin "type.__call__" ⟨.ref C::us,kw⟩)).guards=A.guards:=by
  first
    | rfl
    | (show pushGuards (Code.guards _) A.guards=A.guards
       have e:Code.guards (.builtin "type.__call__" ⟨.ref C::us,kw⟩)=[]:=by first | rfl | (simp [Code.guards,Code.isGuard,guardIds])
       rw [e,pushGuards_eq]
       cases A.guards <;> simp)
theorem bN.make {k:Nat} {A:Around} (r:bN (k+1) A) (C:Addr) (us:List Value) (kw:List (Str×Value)):bN k (A.under (.builtin "type.__call__" ⟨.ref C::us,kw⟩)):=
 ⟨r.hd,by rw [mf]; exact r.gd,by have:=r.dp; rw [n5]; omega,by have:=r.un; rw [n3]; omega⟩
theorem bN.depth {k:Nat} {A:Around} (r:bN k A):A.depth<recursionLimit:=by have:=r.dp; omega
theorem bN.units {k:Nat} {A:Around} (r:bN k A):A.units+64<cLine:=by have:=r.un; omega
def rc:TA:=fun _ H Q=>Q [] H
def lz (ta:TE) (tr:TA):TA:=fun σ H Q=>ta σ H fun x H1=>tr σ H1 fun xs H2=>Q (x::xs) H2
section
variable {X:Cx} {e:Expr} {es:List Expr} {te:TE} {t:TA} {pos:Pos}
theorem ae:PA X [] rc:=fun _ _ _ _ H Q I h=>Calls.spliced_nil ⟨[],H,I,.nil,h⟩
theorem aa (ha:PE X e te) (hr:PA X es t) (hs:starEach (e::es) X.env=(false,eval e X.env)::starEach es X.env:=by rfl):PA X (e::es) (lz te t):=by
 intro pos pins s σ H Q I h
 rw [hs]
 show wpAny _ _ (spliced ((false,eval e X.env)::backTo pos (starEach es X.env))) _ _ s
 refine Calls.spliced_cons (thn (ha pins s σ H _ I h) fun u s1 ⟨x,H1,I1,r1,q1⟩=>?_)
 exact thn (hr pos pins s1 σ H1 _ I1 q1) fun us s2 ⟨xs,H2,I2,r2,q2⟩=>⟨x::xs,H2,I2,.cons r1 r2,q2⟩
def xv (t:TA):TE:=fun σ H Q=>t σ H fun xs H1=>xs.length≤sizeLine∧∀ p,H1 p=none→Q (.ref p) (upd H1 p (.tup xs))
def xC (t:TA):TE:=fun σ H Q=>t σ H fun xs H1=>xs.length≤sizeLine∧∀ p,H1 p=none→Q (.ref p) (upd H1 p (.lst xs))
theorem cj {x1} (h:PA X es t):PE X (.Tuple es x1 pos) (xv t):=by
 intro pins s σ H Q I hq
 refine wpAny_Tuple_spliced (thn (h pos pins s σ H _ I hq) fun us s1 ⟨xs,H1,I1,r,z,q⟩=>⟨by rw [← r.length]; exact z,?_⟩)
 have hf:H1 s1.heap.objs.size=none:=I1.hok.fresh (Nat.le_refl _)
 refine⟨.ref s1.heap.objs.size,upd H1 s1.heap.objs.size (.tup xs),I1.laid (t':=s1.toks) (fun b u e=>Heap.get?_push_of_some _ e) (Nat.le_refl _) ?_,rfl,q _ hf⟩
 exact⟨z,us,r,⟨_,Heap.get?_push_size _ rfl,rfl,_,rfl⟩⟩
theorem aU (h:PA X es t):PE X (.List es pos) (xC t):=by
 intro pins s σ H Q I hq
 refine wpAny_List_spliced (thn (h pos pins s σ H _ I hq) fun us s1 ⟨xs,H1,I1,r,z,q⟩=>⟨by rw [← r.length]; exact z,?_⟩)
 have hf:H1 s1.heap.objs.size=none:=I1.hok.fresh (Nat.le_refl _)
 refine⟨.ref s1.heap.objs.size,upd H1 s1.heap.objs.size (.lst xs),I1.laid (t':=s1.toks) (fun b u e=>Heap.get?_push_of_some _ e) (Nat.le_refl _) ?_,rfl,q _ hf⟩
 exact⟨z,us,0,r,Heap.get?_push_size _ rfl⟩
end
abbrev Sp:=List V→Hp→VK→XK→Prop
abbrev CXT:=List Env→Hp→Shared→XK→Value→Shared→Prop
structure gS (P:Program) (w:World) (K:PySem.W.Frag) (mg:Str→Option Value) (base:Heap) (A:Around) (outer:List Env) (s:Shared) (H:Hp):Prop where
 frames:A.frames=some outer
 mod:Mod K mg base
 bs:∀ b o,base.get? b=some o→s.heap.get? b=some o∧H b=none
 bsz:base.objs.size≤s.heap.objs.size
 funs:s.heap.FunFrames base outer
 frf:∀ b∈frs outer,H b=none
 hok:HOk P w H s.heap
 bare:AllBare s.gens
def CE (outer:List Env) (P:Program) (w:World) (H:Hp) (s:Shared) (Q:VK) (u:Value) (s':Shared):Prop:=
 ∃ v H',s'.os=s.os∧AllBare s'.gens∧Un (frs outer) [] H H' s.heap s'.heap∧HOk P w H' s'.heap∧aM v u∧Q v H'
def CR (CX:CXT) (outer:List Env) (P:Program) (w:World) (H:Hp) (s:Shared) (Q:VK) (E:XK) (r:Result) (s':Shared):Prop:=
 match r with
 | .ok (.ret u)=>CE outer P w H s Q u s'
 | .ok _=>False
 | .error e=>CX outer H s E e s'
structure dk (P:Program) (w:World) (K:PySem.W.Frag) (mg:Str→Option Value) (base:Heap) (CX:CXT) (k:Nat) (f:Addr) (fd:FuncData) (ps:List Str) (sp:Sp):Prop where
 len:∀ vs H Q E,sp vs H Q E→vs.length=ps.length
 run:∀ (A:Around) (outer:List Env) (s:Shared) (H:Hp) (args:Args) (us:List Value) (vs:List V) (Q:VK) (E:XK),bN k A→gS P w K mg base A outer s H→BindsTo s fd args (ps.zip us)→aI vs us→sp vs H Q E→
  codeAny (model P w) A (.call (.ref f) args) (CR CX outer P w H s Q E) s
theorem gS.make {P:Program} {w:World} {K:PySem.W.Frag} {mg:Str→Option Value} {base:Heap} {A:Around} {outer:List Env} {s:Shared} {H:Hp} (e:gS P w K mg base A outer s H) (C:Addr) (us:List Value) (kw:List (Str×Value)) :
  gS P w K mg base (A.under (.builtin "type.__call__" ⟨.ref C::us,kw⟩)) outer s H:=⟨by first | exact e.frames | (simpa [Around.under,Code.envs,Code.isFrame,pushEnvs] using e.frames),e.mod,e.bs,e.bsz,e.funs,e.frf,e.hok,e.bare⟩
theorem gS.in1 {P:Program} {w:World} {K:PySem.W.Frag} {mg:Str→Option Value} {base:Heap} {A:Around} {outer:List Env} {s:Shared} {H:Hp} (e:gS P w K mg base A outer s H) :
  gS P w K mg base A.in1 outer s H:=⟨e.frames,e.mod,e.bs,e.bsz,e.funs,e.frf,e.hok,e.bare⟩
section
variable {X:Cx} {pins:List (Addr×Obj)} {σ:St} {H:Hp} {s s':Shared}
theorem Inv.env0 (I:Inv X pins σ H s):gS X.prog X.w X.K X.mg X.base X.A X.stack s H:=
 ⟨I.ok.frames,I.ok.mod,I.bs,Nat.le_trans I.ok.bsz I.sz,I.stack,I.stkFree,I.hok,I.bare⟩
theorem Inv.after {Q:VK} {u:Value} (I:Inv X pins σ H s) (h:CE X.stack X.prog X.w H s Q u s'):EP X pins σ Q u s':=by
 obtain⟨v,H',os,bare,un,hok,r,q⟩:=h
 obtain⟨hh,g,d,t,os'⟩:=s'
 obtain rfl:os'=s.os:=os
 exact⟨v,H',I.call (h':=hh) (g':=g) (d':=d) (t':=t) (ch:=[]) un hok bare (fun b z=>absurd z (by simp)),r,q⟩
end
def jP (sp:Sp) (dvs:List V) (E:XK) (t:TA):TE:=fun σ H Q=>t σ H fun vs H1=>sp (vs++dvs) H1 Q E
def xz (C:Addr) (m:Str) (sp:Sp) (dvs:List V) (E:XK) (ta:TE) (t:TA):TE:=fun σ H Q=>ta σ H fun x H1=>∃ a dx fs,x=.ref a∧H1 a=some (.ins C dx fs)∧fs.lookup m=none∧
 t σ H1 fun vs H2=>sp (x::(vs++dvs)) H2 Q E
def xB (C:Addr) (sp:Sp) (dvs:List V) (E:XK) (t:TA):TE:=fun σ H Q=>t σ H fun vs H1=>∀ x dx,H1 x=none→H1 dx=none→dx≠x→
 sp (.ref x::(vs++dvs)) (upd (upd H1 dx (.own x)) x (.ins C dx [])) (fun v H2=>v=.non∧Q (.ref x) H2) E
def cH (K:PySem.W.Frag) (fd:FuncData) (ps:List Str) (ds:List Value):Prop:=
 ∀ (s:Shared) (us:List Value),K.In s.heap→(us++ds).length=ps.length→BindsTo s fd ⟨us,[]⟩ (ps.zip (us++ds))
theorem cH.all {K:PySem.W.Frag} {fd:FuncData} {ps:List Str} (h:∀ us:List Value,us.length=ps.length→bindArgs fd ⟨us,[]⟩=pure (ps.zip us)):cH K fd ps []:=fun s us _ hl=>by
 rw [List.append_nil] at hl ⊢
 exact .of_eq (h us hl)
def gm (CX:CXT) (X:Cx) (E:XK):Prop:=∀ (pins:List (Addr×Obj)) (σ:St) (H:Hp) (s:Shared) (e:Value) (s':Shared),Inv X pins σ H s→CX X.stack H s E e s'→X.xe e s'
section
variable {X:Cx} {CX:CXT} {k:Nat} {f C:Addr} {fd:FuncData} {ps:List Str} {sp:Sp} {dvs:List V} {ds:List Value} {E:XK} {x m:Str} {p pos apos:Pos} {e o:Expr} {es:List Expr} {ta:TE} {t:TA}
theorem rC {pins:List (Addr×Obj)} {σ:St} {H:Hp} {s:Shared} {Q:VK} {us:List Value} {vs:List V} (F:dk X.prog X.w X.K X.mg X.base CX k f fd ps sp) (hr:bN k X.A) (hb:cH X.K fd ps ds) (hd:aI dvs ds) (hx:gm CX X E)
  (I:Inv X pins σ H s) (r:aI vs us) (h:sp (vs++dvs) H Q E):wpAny (model X.prog X.w) X.A (call (.ref f) us) (EP X pins σ Q) X.xe s:=by
 have r2:aI (vs++dvs) (us++ds):=r.append hd
 have hl:(us++ds).length=ps.length:=by rw [← r2.length]; exact F.len _ _ _ _ h
 refine wpAny_call (codeAny_mono (F.run X.A X.stack s H ⟨us,[]⟩ (us++ds) (vs++dvs) Q E hr I.env0 (hb s us I.kIn hl) r2 h) fun r s' hq=>?_)
 cases r with
 | error e=>exact hx pins σ H s e s' I hq
 | ok fl=>
  cases fl with
  | ret u=>exact I.after hq
  | next=>exact False.elim hq
  | brk=>exact False.elim hq
  | cont=>exact False.elim hq
theorem kG (F:dk X.prog X.w X.K X.mg X.base CX k f fd ps sp) (hr:bN k X.A) (hg:Gl X x) (hm:X.mg x=some (.ref f)) (hk:PySem.W.keepIn X.K (.ref f)=true) (hb:cH X.K fd ps ds) (hd:aI dvs ds) (hx:gm CX X E)
  (ha:PA X (e::es) t) (hdb:(x==("__debug__":Str))=false:=by decide) (he:starEach (e::es) X.env=(false,eval e X.env)::starEach es X.env:=by rfl) (hpl:(backTo pos (starEach es X.env)).any (·.1)=false:=by rfl) :
  PE X (.Call (.Name x p) (e::es) [] pos) (jP sp dvs E t):=by
 intro pins s σ H Q I h
 refine wpAny_Call_Name_kw (fP I hg hm ?_ hdb)
 refine PySem.W.callWith_K (h₀:=X.base) I.ok.mod.kin hk (thn (ha pos pins s σ H _ I h) fun us s1 ⟨vs,H1,I1,r,q⟩=>⟨I1.kIn,?_⟩) he hpl
 exact rC F hr hb hd hx I1 r q
theorem fm {pl:Sem Bool} (he:PE X o ta) (c:Cls X.K C) (hm:oJ X.K C m f) (F:dk X.prog X.w X.K X.mg X.base CX k f fd ps sp) (hr:bN k X.A) (hb:cH X.K fd ps ds) (hd:aI dvs ds) (hx:gm CX X E)
  (ht:eval (.Call (.Attribute o m apos) [] [] pos) X.env=(do
   let ov ← eval o X.env
   standAt apos.atName
   let (f,first) ← holding [ov] (getMethod ov m pl)
   callWith pos f first (backTo pos (starEach [] X.env)) (backToKw pos (keywordEach [] X.env))):=by rfl) :
  PE X (.Call (.Attribute o m apos) [] [] pos) (xz C m sp dvs E ta rc):=by
 intro pins s σ H Q I h
 refine PySem.W.methodCall_KW (pl:=pl) (thn (he pins s σ H _ I h) fun u s1 ⟨x,H1,I1,rx,a,dx,fs,ex,ea,l,q⟩=>?_) ht
 subst ex
 obtain rfl:u=Value.ref a:=rx
 refine oy I1 ea c hm l ?_
 exact PySem.W.callWith_K0 (first:=[.ref a]) I1.kIn hm.kp (rC (us:=[.ref a]) (vs:=[.ref a]) F hr hb hd hx I1 (.cons rfl .nil) q)
structure Mk (K:PySem.W.Frag) (C f:Addr):Prop where
 makes:PySem.W.makesIn K C=true
 init:PySem.W.findIn K (.ref C) "__init__"=some (some (.ref f))
 fn:PySem.W.isFn K (.ref f)=true
 kp:PySem.W.keepIn K (.ref C)=true
theorem rz {pins:List (Addr×Obj)} {σ:St} {H:Hp} {s:Shared} {Q:VK} {us:List Value} {vs:List V} (M:Mk X.K C f) (F:dk X.prog X.w X.K X.mg X.base CX k f fd ps sp) (hr:bN (k+1) X.A) (hb:cH X.K fd ps ds) (hd:aI dvs ds)
  (hx:gm CX X E) (I:Inv X pins σ H s) (r:aI vs us)
  (h:∀ x dx,H x=none→H dx=none→dx≠x→sp (.ref x::(vs++dvs)) (upd (upd H dx (.own x)) x (.ins C dx [])) (fun v H2=>v=.non∧Q (.ref x) H2) E) :
  wpAny (model X.prog X.w) X.A (call (.ref C) us) (EP X pins σ Q) X.xe s:=by
 have hq:=h (s.heap.objs.size+1) s.heap.objs.size (I.hok.fresh (Nat.le_succ _)) (I.hok.fresh (Nat.le_refl _)) (Nat.ne_of_lt (Nat.lt_succ_self _))
 have I2:=Inv.made (C:=C) I
 have r2:aI (V.ref (s.heap.objs.size+1)::(vs++dvs)) (Value.ref (s.heap.objs.size+1)::(us++ds)):=.cons rfl (r.append hd)
 have hl:(Value.ref (s.heap.objs.size+1)::us++ds).length=ps.length:=by
  have e:=r2.length
  rw [F.len _ _ _ _ hq] at e
  exact e.symm
 refine wpAny_call (sL (f:=f) I.kIn M.makes M.init (beq_iff_eq.mp M.fn) (codeAny_mono (F.run _ X.stack _ _ ⟨Value.ref (s.heap.objs.size+1)::us,[]⟩ (Value.ref (s.heap.objs.size+1)::(us++ds)) _ _ E (hr.make C us [])
  (I2.env0.make C us []) (hb _ (Value.ref (s.heap.objs.size+1)::us) I2.kIn hl) r2 hq) fun r s' hq'=>?_))
 cases r with
 | error e=>exact hx pins σ _ _ e s' I2 hq'
 | ok fl=>
  cases fl with
  | ret u=>
   obtain⟨v,H',I3,rv,ev,q3⟩:=I2.after hq'
   subst ev
   exact⟨rv,⟨V.ref (s.heap.objs.size+1),H',I3,rfl,q3⟩⟩
  | next=>exact False.elim hq'
  | brk=>exact False.elim hq'
  | cont=>exact False.elim hq'
theorem kE (M:Mk X.K C f) (F:dk X.prog X.w X.K X.mg X.base CX k f fd ps sp) (hr:bN (k+1) X.A) (hg:Gl X x) (hm:X.mg x=some (.ref C)) (hb:cH X.K fd ps ds) (hd:aI dvs ds) (hx:gm CX X E)
  (ha:PA X (e::es) t) (hdb:(x==("__debug__":Str))=false:=by decide) (he:starEach (e::es) X.env=(false,eval e X.env)::starEach es X.env:=by rfl) (hpl:(backTo pos (starEach es X.env)).any (·.1)=false:=by rfl) :
  PE X (.Call (.Name x p) (e::es) [] pos) (xB C sp dvs E t):=by
 intro pins s σ H Q I h
 refine wpAny_Call_Name_kw (fP I hg hm ?_ hdb)
 refine PySem.W.callWith_K (h₀:=X.base) I.ok.mod.kin M.kp (thn (ha pos pins s σ H _ I h) fun us s1 ⟨vs,H1,I1,r,q⟩=>⟨I1.kIn,?_⟩) he hpl
 exact rz M F hr hb hd hx I1 r q
end
section
variable {X:Cx} {CX:CXT} {k:Nat} {f C:Addr} {fd:FuncData} {ps ks:List Str} {sp:Sp} {E:XK} {x m:Str} {p pos apos kpos:Pos} {e o:Expr} {es:List Expr} {kws:List Keyword} {te ta:TE} {t tk:TA} {nm:Option Str}
variable {g:List Value→List Value→List Value} {gV:List V→List V→List V}
end
structure aB (N P:List Str) (sc:Scope):Prop where
 kind:sc.kind=.function
 co:sc.isCoroutine=false
 gen:sc.isGenerator=false
 nd:N.Nodup
 pre:N.take P.length=P
 par:∀ x∈P,sc.names.lookup x=some .local∨sc.names.lookup x=some .cell
 nofree:∀ y∈sc.names,y.2≠.free
theorem kb {kindOf:Str→Option NameKind} {x:Str}:∀ {binds:List (Str×Value)} {m:Str→Option Value},(∀ v,(x,v)∉binds)→bindL kindOf binds m x=m x
 | [],_,_=>rfl
 | (n,v)::r,m,h=>by
  unfold bindL
  rw [kb fun w hw=>h w (List.mem_cons_of_mem _ hw)]
  split
  ·have : x≠n:=by rintro rfl; exact h v List.mem_cons_self
   simp [this]
  ·rfl
theorem ke {kindOf:Str→Option NameKind} {x:Str}:∀ {binds:List (Str×Value)} {m:Str→Option Value},(∀ v,(x,v)∉binds)→bindC kindOf binds m x=m x
 | [],_,_=>rfl
 | (n,v)::r,m,h=>by
  unfold bindC
  rw [ke fun w hw=>h w (List.mem_cons_of_mem _ hw)]
  split
  ·rfl
  ·have : x≠n:=by rintro rfl; exact h v List.mem_cons_self
   simp [this]
theorem ii {kindOf:Str→Option NameKind} {x:Str} {v:Value}:∀ {P:List Str} {vs:List Value} {i:Nat} {m:Str→Option Value},P.Nodup→P[i]? = some x→vs[i]? = some v→kindOf x=some .local→
  bindL kindOf (P.zip vs) m x=some v
 | [],_,_,_,_,h,_,_=>by simp at h
 | _::_,[],_,_,_,_,h,_=>by simp at h
 | p::P,w::vs,0,m,nd,h1,h2,hk=>by
  simp at h1 h2; subst h1; subst h2
  show bindL kindOf ((p,w)::P.zip vs) m p=_
  unfold bindL
  rw [kb fun v hv=>(List.nodup_cons.mp nd).1 (List.of_mem_zip hv).1,if_pos hk]
  simp
 | p::P,w::vs,i+1,m,nd,h1,h2,hk=>by
  show bindL kindOf ((p,w)::P.zip vs) m x=_
  unfold bindL
  exact ii (i:=i) (List.nodup_cons.mp nd).2 (by simpa using h1) (by simpa using h2) hk
theorem ij {kindOf:Str→Option NameKind} {x:Str} {v:Value}:∀ {P:List Str} {vs:List Value} {i:Nat} {m:Str→Option Value},P.Nodup→P[i]? = some x→vs[i]? = some v→kindOf x≠some .local→
  bindC kindOf (P.zip vs) m x=some v
 | [],_,_,_,_,h,_,_=>by simp at h
 | _::_,[],_,_,_,_,h,_=>by simp at h
 | p::P,w::vs,0,m,nd,h1,h2,hk=>by
  simp at h1 h2; subst h1; subst h2
  show bindC kindOf ((p,w)::P.zip vs) m p=_
  unfold bindC
  rw [ke fun v hv=>(List.nodup_cons.mp nd).1 (List.of_mem_zip hv).1,if_neg hk]
  simp
 | p::P,w::vs,i+1,m,nd,h1,h2,hk=>by
  show bindC kindOf ((p,w)::P.zip vs) m x=_
  unfold bindC
  exact ij (i:=i) (List.nodup_cons.mp nd).2 (by simpa using h1) (by simpa using h2) hk
def cR (N:List Str) (vs:List V):St:=vs.map some++List.replicate (N.length-vs.length) none
def jr (CX:CXT) (P:Program) (w:World) (K:PySem.W.Frag) (mg:Str→Option Value) (base:Heap) (N:List Str) (qual:Str) (scope:Scope) (f:Addr) (cd:Value) (A:Around) (outer:List Env) (s:Shared) (H:Hp) (E:XK):Cx where
 prog:=P
 w:=w
 K:=K
 mg:=mg
 base:=base
 A:=A.deeper (envOfC qual scope s.heap.objs.size f cd)
 N:=N
 s₀:=s
 H₀:=H
 env:=envOfC qual scope s.heap.objs.size f cd
 outer:=outer
 stack:=envOfC qual scope s.heap.objs.size f cd::outer
 ex:=[]
 calm:=true
 fn:=fun _=>true
 pn:=[]
 xe:=fun e s'=>wpAny (model P w) (A.deeper (envOfC qual scope s.heap.objs.size f cd)) (leaving (envOfC qual scope s.heap.objs.size f cd) e) (fun _ s''=>CX outer H s E e s'') (fun e' s''=>CX outer H s E e' s'') s'
theorem gO {sc:Scope} {n:Nat} {x:Str} (h:sc.names.lookup x=some .cell):∃ c,(cellsFrom n sc.names []).lookup x=some c:=by
 have q:=PySem.W.cellsFrom_some sc.names n [] (.inl h)
 exact Option.isSome_iff_exists.mp q
theorem qv {CX:CXT} {P:Program} {w:World} {K:PySem.W.Frag} {mg:Str→Option Value} {base:Heap} {N ps:List Str} {qual:Str} {scope:Scope} {f:Addr} {cd:Value} {A:Around} {outer:List Env} {s s1:Shared} {H:Hp} {E:XK} {us:List Value} {vs:List V}
  (S:aB N ps scope) (hd:A.handled=none) (e0:gS P w K mg base A outer s H) (hl:vs.length=ps.length) (r:aI vs us)
  (x:InCallC s s.heap.objs.size (bindL (envOfC qual scope s.heap.objs.size f cd).kindOf (ps.zip us) fun _=>none) (cellsFrom (s.heap.objs.size+1) scope.names []) (bindC (envOfC qual scope s.heap.objs.size f cd).kindOf (ps.zip us) fun _=>none) s1) :
  Inv (jr CX P w K mg base N qual scope f cd A outer s H E) [] (cR N vs) H s1:=by
 have hpl:ps.length≤N.length:=by have:=congrArg List.length S.pre; rw [List.length_take] at this; omega
 obtain⟨h1,tk,rfl,hk⟩:=x.done
 have noA:∀ b:Addr,b∉(jr CX P w K mg base N qual scope f cd A outer s H E).ex:=fun b z=>absurd (show b∈([]:List Addr) from z) (by simp)
 refine⟨⟨e0.mod,S.kind,rfl,rfl,Nat.le_refl _,fun y z c h1 h2=>?_,fun y hy=>?_,fun y c _ h=>?_,fun _=>hd,Around.frames_deeper e0.frames,.inr ⟨rfl,rfl⟩,fun b z=>absurd z (noA b),e0.bs,e0.bsz,fun b _ _=>noA b,fun b z=>absurd z (noA b),e0.funs,e0.frf⟩,
  rfl,e0.bare,Un.kept hk,⟨_,x.toInCall.ns,fun i y v h1 h2 h3=>?_⟩,fun y c h=>⟨_,x.cell y c h⟩,e0.hok.fresh (Nat.le_refl _),fun y c h=>?_,fun p hp=>absurd (show p∈([]:List (Addr×Obj)) from hp) (by simp),e0.hok.kept hk,?_⟩
 ·exact name_of_addr x.apart (PySem.mem_of_lookup h1) (PySem.mem_of_lookup h2)
 ·have hy:scope.names.lookup y=some .cell∨scope.names.lookup y=some .free:=hy
  rcases hy with hy | hy
  ·exact gO hy
  ·exact absurd rfl (S.nofree _ (PySem.mem_of_lookup hy))
 ·exact Nat.le_of_lt (x.above y c (PySem.mem_of_lookup h))
 ·have hi:i<vs.length:=by
   unfold cR at h2
   by_cases hi:i<vs.length
   ·exact hi
   ·rw [List.getElem?_append_right (by simpa using hi)] at h2
    rw [List.getElem?_replicate] at h2
    split at h2 <;> cases h2
  have ha:vs[i]? = some v:=by
   unfold cR at h2
   rw [List.getElem?_append_left (by simpa using hi),List.getElem?_map] at h2
   cases e:vs[i]? with
   | none=>rw [e] at h2; cases h2
   | some a=>rw [e] at h2; cases h2; rfl
  obtain⟨u,hu,rv⟩:=r.get ha
  have hp:ps[i]? = some y:=by
   rw [← S.pre,List.getElem?_take_of_lt (by omega)]; exact h1
  have ndP:ps.Nodup:=by rw [← S.pre]; exact S.nd.sublist (List.take_sublist _ _)
  refine⟨u,rv,?_⟩
  rcases S.par y (List.mem_of_getElem? hp) with k | k
  ·exact .inl ⟨k,ii ndP hp hu k⟩
  ·obtain⟨c,e⟩:=gO (n:=s.heap.objs.size+1) k
   refine .inr ⟨.inl k,c,e,?_⟩
   have q:=x.cell y c e
   rw [ij ndP hp hu (by show scope.names.lookup y≠_; rw [k]; decide)] at q
   exact q
 ·exact e0.hok.fresh (Nat.le_of_lt (x.above y c (PySem.mem_of_lookup h)))
 ·unfold cR
  show _=N.length
  rw [List.length_append,List.length_map,List.length_replicate]
  omega
theorem tK {CX:CXT} {P:Program} {w:World} {K:PySem.W.Frag} {mg:Str→Option Value} {base:Heap} {k:Nat} {f:Addr} {name qual:Str} {params:Arguments} {body:List Stmt} {scope:Scope} {dV kV doc pm cdv ct oc:Value} {an od:Option Addr}
  {osl:Array (Option Value)} {N ps:List Str} {sp:Sp} (lk:K.lookup f=some ⟨oc,od,.func (PySem.W.fnOf name qual params body scope dV kV doc pm an cdv ct),osl⟩) (hcd:PySem.W.codeIn K cdv qual=true) (S:aB N ps scope)
  (len:∀ vs H Q E,sp vs H Q E→vs.length=ps.length)
  (hbody:∀ (A:Around) (outer:List Env) (s:Shared) (H:Hp) (vs:List V) (Q:VK) (E:XK),bN k (A.deeper (envOfC qual scope s.heap.objs.size f cdv))→sp vs H Q E→
   ∃ t,PSs (jr CX P w K mg base N qual scope f cdv A outer s H E) body t∧t {nx:=fun _ H'=>Q .non H',rt:=Q} (cR N vs) H) :
  dk P w K mg base CX (k+1) f (PySem.W.fnOf name qual params body scope dV kV doc pm an cdv ct) ps sp:=by
 refine⟨len,fun A outer s H args us vs Q E hr e0 hb r hsp=>?_⟩
 have hl:=len _ _ _ _ hsp
 have KX:K.In s.heap:=e0.mod.kin.keeps fun b o e=>(e0.bs b o e).1
 have lim:s.heap.NoLimit:=e0.mod.nolimit.keeps fun b o e=>(e0.bs b o e).1
 have hkind:∀ y∈ps.zip us,scope.names.lookup y.1=some .local∨(scope.names.lookup y.1=some .cell∧((cellsFrom (s.heap.objs.size+1) scope.names []).lookup y.1).isSome=true):=fun ⟨n,v⟩ hy=>by
  rcases S.par n (List.of_mem_zip hy).1 with q | q
  ·exact .inl q
  ·exact .inr ⟨q,PySem.W.cellsFrom_some _ _ _ (.inl q)⟩
 refine codeAny_call_function hr.depth (KX _ _ lk) rfl S.co S.gen rfl (PySem.W.codeRec_of KX hcd) (hb _ _ _ _ ?_)
 refine wpAny_newFunctionEnv_cells S.kind hkind fun env he s1 x=>?_
 subst he
 refine⟨lim.keeps x.toInCall.keep,codeAny_func ?_⟩
 obtain⟨t,ht,hq⟩:=hbody A outer s H vs Q E (hr.deeper _) hsp
 have I:Inv (jr CX P w K mg base N qual scope f cdv A outer s H E) [] (cR N vs) H s1:=qv S hr.hd e0 hl r x
 refine wpAny_mono (ht [] s1 (cR N vs) H _ I hq) (fun fl s' hs=>?_) fun e s' hs=>hs
 have fin:∀ {σ':St} {H':Hp} {v:V} {u:Value},Inv (jr CX P w K mg base N qual scope f cdv A outer s H E) [] σ' H' s'→aM v u→Q v H'→CE outer P w H s Q u s':=
  fun {σ' H' v u} J rv q=>⟨v,H',J.os,J.bare,J.base,J.hok,rv,q⟩
 cases fl with
 | ret u=>
  obtain⟨v,σ',H',J,rv,q⟩:=hs
  exact fin J rv q
 | next=>
  obtain⟨σ',H',J,q⟩:=hs
  exact fin (v:=V.non) (u:=Value.none) J rfl q
 | brk=>
  obtain⟨_,_,_,q⟩:=hs
  exact False.elim q
 | cont=>
  obtain⟨_,_,_,q⟩:=hs
  exact False.elim q
section
variable {X:Cx} {x:Str} {p pos:Pos} {e:Expr} {es:List Expr} {t:TA} {id T:String} {r:List V→Hp→VK→Prop}
def tCB (r:List V→Hp→VK→Prop) (t:TA):TE:=fun σ H Q=>t σ H fun vs H1=>r vs H1 Q
theorem aD (hc:cX X (.builtin id) r) (hg:Gl X x) (hm:X.mg x=none) (hv:bootBuiltins x=some (.builtin id)) (ha:PA X (e::es) t) (hn:x≠"__name__":=by decide) (hdb:(x==("__debug__":Str))=false:=by decide)
  (he:starEach (e::es) X.env=(false,eval e X.env)::starEach es X.env:=by rfl) (hpl:(backTo pos (starEach es X.env)).any (·.1)=false:=by rfl):PE X (.Call (.Name x p) (e::es) [] pos) (tCB r t):=by
 intro pins s σ H Q I h
 refine wpAny_Call_Name_kw (fC I hg hm hv ?_ hn hdb)
 exact PyProof.Rows.callWith_builtin1 (thn (ha pos pins s σ H _ I h) fun us s1 ⟨vs,H1,I1,r1,q1⟩=>hc pins s1 σ H1 vs us Q I1 r1 q1) he hpl
theorem bR (hc:cX X (.type T) r) (hg:Gl X x) (hm:X.mg x=none) (hv:bootBuiltins x=some (.type T)) (ha:PA X (e::es) t) (hn:x≠"__name__":=by decide) (hdb:(x==("__debug__":Str))=false:=by decide)
  (he:starEach (e::es) X.env=(false,eval e X.env)::starEach es X.env:=by rfl) (hpl:(backTo pos (starEach es X.env)).any (·.1)=false:=by rfl):PE X (.Call (.Name x p) (e::es) [] pos) (tCB r t):=by
 intro pins s σ H Q I h
 refine wpAny_Call_Name_kw (fC I hg hm hv ?_ hn hdb)
 exact PyProof.Rows.callWith_type1 (thn (ha pos pins s σ H _ I h) fun us s1 ⟨vs,H1,I1,r1,q1⟩=>hc pins s1 σ H1 vs us Q I1 r1 q1) he hpl
end
end L2
namespace HT
open PySem PyProof.Rows
section
open PySem.SeqAt
open PySem.AutoSeq1 (wpAny_loadPart')
open PySem.MeetsSeq PySem.MeetsSeq2 PySem.MeetsSeq3
end
section
variable {prog:Program} {w:World} {A:Around} {E:Value→Shared→Prop} {s:Shared}
theorem cat_tup {t b:Addr} {vs ws:List Value} {Q:Value→Shared→Prop} (ht:IsTup s.heap t vs.toArray) (hb:IsTup s.heap b ws.toArray) (hv:vs≠[])
  (h1:ws=[]→Q (.ref t) s) (h2:ws≠[]→Q (.ref s.heap.objs.size) {s with heap:=s.heap.push {cls:=.type "tuple",data:=.seq (vs++ws).toArray}})
  (hsz:vs.length+ws.length≤sizeLine):wpAny (model prog w) A (binaryOp .Add (.ref t) (.ref b)) Q E s:=by
 obtain⟨⟨cls,dd,data,sl⟩,ho,hc,n,hd⟩:=id ht
 obtain⟨⟨cls2,dd2,data2,sl2⟩,ho2,hc2,n2,hd2⟩:=id hb
 simp only at hc hd hc2 hd2
 subst hc hd hc2 hd2
 have e:vs.toArray++ws.toArray=(vs++ws).toArray:=by simp
 by_cases hw:ws=[]
 ·exact concat_meets ⟨_,ho,rfl⟩ ⟨_,ho2,rfl⟩ noFill_tuple_add seq_tuple_add PySem.F.slot_tuple_add PySem.F.entry_tuple_add (PySem.F.args_tuple_add_2 _ _)
   (tuple_addW1 t b vs.toArray ws.toArray n n2 dd dd2 sl sl2 (by simpa using hv) (by simp [hw])) ⟨ho,ho2,h1 hw⟩
 ·refine concat_meets ⟨_,ho,rfl⟩ ⟨_,ho2,rfl⟩ noFill_tuple_add seq_tuple_add PySem.F.slot_tuple_add PySem.F.entry_tuple_add (PySem.F.args_tuple_add_2 _ _)
   (tuple_addW2 t b vs.toArray ws.toArray n n2 dd dd2 sl sl2 (by simpa using hv) (by simpa using hw) (by rw [List.size_toArray,List.size_toArray]; exact hsz)) ⟨ho,ho2,?_⟩
  rw [e]
  exact h2 hw
def sIx (n d:Nat):Option Int→Nat
 | none=>d
 | some v=>if v<0 then (v+(n:Int)).toNat else min v.toNat n
end
end HT
namespace L2
open PySem PySem.Spec PyProof.Rows
abbrev TO:=St→Hp→(Option Int→Hp→Prop)→Prop
def PO (X:Cx) (e:Option Expr) (t:TO):Prop:=
 ∀ (pins:List (Addr×Obj)) (s:Shared) (σ:St) (H:Hp) (Q:Option Int→Hp→Prop),Inv X pins σ H s→t σ H Q→
  wpAny (model X.prog X.w) X.A (evalPart e X.env) (fun u s'=>∃ o H',Inv X pins σ H' s'∧IsPart u o∧Q o H') X.xe s
def uo:TO:=fun _ H Q=>Q none H
def xw (t:TE):TO:=fun σ H Q=>t σ H fun x H1=>∃ i,x=.int i∧Q (some i) H1
section
variable {X:Cx} {e:Expr} {te:TE} {lo hi:Option Expr} {tl th:TO} {pos p2:Pos}
theorem pe:PO X none uo:=by
 intro pins s σ H Q I h
 rw [evalPart_none]
 exact wpAny_pure ⟨none,H,I,.none,h⟩
theorem pd (h:PE X e te):PO X (some e) (xw te):=by
 intro pins s σ H Q I hw
 rw [evalPart_some]
 refine thn (h pins s σ H _ I hw) fun u s1 ⟨x,H1,I1,r1,q1⟩=>?_
 obtain⟨i,rfl,q⟩:=q1
 obtain⟨t,rfl⟩:=r1
 exact⟨some i,H1,I1,.int i t,q⟩
def SlR (X:Cx) (r:V→Option Int→Option Int→Hp→VK→Prop):Prop:=
 ∀ (pins:List (Addr×Obj)) (s:Shared) (σ:St) (H:Hp) (x:V) (v vl vu:Value) (lo hi:Option Int) (sl:Addr) (Q:VK),Inv X pins σ H s→aM x v→s.heap.IsSliceOf sl vl vu .none→IsPart vl lo→IsPart vu hi→r x lo hi H Q→
  ∃ T id,typeLookup (.type T) "__getitem__"=pure (some (.builtin id))∧s.TypeIs v T∧wpAny (model X.prog X.w) X.A (getItem v (.ref sl)) (EP X pins σ Q) X.xe s
def tSl (r:V→Option Int→Option Int→Hp→VK→Prop) (te:TE) (tl th:TO):TE:=fun σ H Q=>te σ H fun x H1=>tl σ H1 fun l H2=>th σ H2 fun u H3=>r x l u H3 Q
theorem lU {r:V→Option Int→Option Int→Hp→VK→Prop} (hr:SlR X r) (he:PE X e te) (hl:PO X lo tl) (hu:PO X hi th):PE X (.Subscript e (.Slice lo hi none p2) pos) (tSl r te tl th):=by
 intro pins s σ H Q I h
 refine Subscript_ (thn (he pins s σ H _ I h) fun v s1 ⟨x,H1,I1,r1,q1⟩=>?_)
 refine wpAny_Slice (thn (hl pins s1 σ H1 _ I1 q1) fun vl s2 ⟨l,H2,I2,pl,q2⟩=>thn (hu pins s2 σ H2 _ I2 q2) fun vu s3 ⟨u,H3,I3,pu,q3⟩=>?_)
 rw [evalPart_none]
 refine wpAny_pure ?_
 have I4:Inv X pins σ H3 {s3 with heap:=s3.heap.push {cls:=.type "slice",data:=.fields #[vl,vu,.none]}}:=I3.kept (t':=s3.toks) fun b ob q=>Heap.get?_push_of_some _ q
 obtain⟨T,id,hT,ht,hg⟩:=hr pins {s3 with heap:=s3.heap.push {cls:=.type "slice",data:=.fields #[vl,vu,.none]}} σ H3 x v vl vu l u s3.heap.objs.size Q I4 r1 (Heap.IsSliceOf.new ..) pl pu q3
 show wpAny (model X.prog X.w) X.A (subscriptTail e (.Slice lo hi none p2) v (.ref s3.heap.objs.size)) (EP X pins σ Q) X.xe {s3 with heap:=s3.heap.push {cls:=.type "slice",data:=.fields #[vl,vu,.none]}}
 exact tail_any (ops:=[.ref s3.heap.objs.size,v]) ht hT hg (by with_unfolding_all rfl)
def cutV (xs:List V) (lo hi:Option Int):List V:=(xs.drop (HT.sIx xs.length 0 lo)).take (HT.sIx xs.length xs.length hi-HT.sIx xs.length 0 lo)
theorem mL (xs:List V) (lo hi:Option Int):(cutV xs lo hi).length≤xs.length:=by
 unfold cutV
 rw [List.length_take,List.length_drop]
 omega
def xU (K:PySem.W.Frag):R2:=fun x y H Q=>∃ a b xs ys,x=.ref a∧y=.ref b∧SqT K H a xs∧SqT K H b ys∧xs≠[]∧xs.length+ys.length≤sizeLine∧
 (ys=[]→Q (.ref a) H)∧(ys≠[]→∀ p,H p=none→Q (.ref p) (upd H p (.tup (xs++ys))))
theorem aI.nil_iff {xs:List V} {us:List Value} (r:aI xs us):us=[]↔xs=[]:=by
 cases r with
 | nil=>simp
 | cons _ _=>simp
theorem uQ:OpR X (binaryOp .Add) (xU X.K):=by
 intro pins s σ H x y v u Q I rx ry h
 obtain⟨a,b,xs,ys,rfl,rfl,ha,hb,hx,hz,q1,q2⟩:=h
 cases rx
 cases ry
 obtain⟨its,r1,p1,_⟩:=I.tuple ha
 obtain⟨its2,r2,p2,_⟩:=I.tuple hb
 refine HT.cat_tup p1 p2 (fun z=>hx (r1.nil_iff.mp z)) (fun z=>⟨.ref a,H,I,rfl,q1 (r2.nil_iff.mp z)⟩) (fun z=>?_) (by rw [← r1.length,← r2.length]; exact hz)
 refine⟨.ref s.heap.objs.size,_,I.laid (t':=s.toks) (o:=.tup (xs++ys)) (fun b ob q=>Heap.get?_push_of_some _ q) (Nat.le_refl _) ?_,rfl,q2 (fun w=>z (r2.nil_iff.mpr w)) _ (I.hok.fresh (Nat.le_refl _))⟩
 exact⟨by rw [List.length_append]; exact hz,_,r1.append r2,IsTup.new _ _⟩
end
def ixN (n:Nat) (i:Int):Option Nat:=if 0≤i then (if i<n then some i.toNat else none) else if -(n:Int)≤i then some (i+n).toNat else none
def atI {α:Type} (xs:List α) (i:Int):Option α:=(ixN xs.length i).bind fun j=>xs[j]?
theorem pC {n:Nat} {i:Int} {j:Nat} (h:ixN n i=some j):seqIndex? i n=some j∧j<n∧-(n:Int)≤i∧i<n:=by
 unfold ixN at h
 by_cases h0:0≤i
 ·rw [if_pos h0] at h
  by_cases h1:i<n
  ·rw [if_pos h1] at h
   have e:i.toNat=j:=Option.some.inj h
   exact⟨by rw [seqIndex_of h0 h1,e],by omega,by omega,h1⟩
  ·rw [if_neg h1] at h; cases h
 ·rw [if_neg h0] at h
  by_cases h1:-(n:Int)≤i
  ·rw [if_pos h1] at h
   have e:(i+n).toNat=j:=Option.some.inj h
   exact⟨by rw [seqIndex_neg (by omega) h1,e],by omega,h1,by omega⟩
  ·rw [if_neg h1] at h; cases h
theorem pK {α:Type} {xs:List α} {i:Int} {v:α} (h:atI xs i=some v):∃ j,seqIndex? i xs.length=some j∧xs[j]? = some v∧j<xs.length∧-(xs.length:Int)≤i∧i<xs.length:=by
 unfold atI at h
 cases e:ixN xs.length i with
 | none=>rw [e] at h; cases h
 | some j=>
  rw [e] at h
  obtain⟨h1,h2,h3,h4⟩:=pC e
  exact⟨j,h1,h,h2,h3,h4⟩
theorem pJ {α:Type} {xs:List α} {j:Nat} {v:α} (h:xs[j]? = some v):atI xs (j:Int)=some v:=by
 have hj:j<xs.length:=(List.getElem?_eq_some_iff.mp h).1
 have e:ixN xs.length (j:Int)=some j:=by
  unfold ixN
  rw [if_pos (by omega),if_pos (by omega)]; simp
 unfold atI; rw [e]; exact h
def vC (b:Expr):Prop:=∀ o i,subscripted b false o i=operate [o,i] (getItem o i)
def IxR (X:Cx) (r:R2):Prop:=
 ∀ (value slice:Expr) (pins:List (Addr×Obj)) (s:Shared) (σ:St) (H:Hp) (x y:V) (v u:Value) (Q:VK),Inv X pins σ H s→aM x v→aM y u→r x y H Q→
  subscripted slice false v u=operate [v,u] (getItem v u)→wpAny (model X.prog X.w) X.A (subscriptTail value slice v u) (EP X pins σ Q) X.xe s
def MtR (X:Cx) (id:String) (r:V→List V→Hp→VK→Prop):Prop:=
 ∀ (pins:List (Addr×Obj)) (s:Shared) (σ:St) (H:Hp) (x:V) (xs:List V) (v:Value) (us:List Value) (Q:VK),Inv X pins σ H s→aM x v→aI xs us→r x xs H Q→
  wpAny (model X.prog X.w) X.A (call (.builtin id) (v::us)) (EP X pins σ Q) X.xe s
section
variable {X:Cx} {a b:Expr} {ta tb:TE} {pos:Pos}
theorem cb {r:R2} (hr:IxR X r) (ha:PE X a ta) (hb:PE X b tb) (hs:vC b):PE X (.Subscript a b pos) (tOp r ta tb):=by
 intro pins s σ H Q I h
 exact Subscript_ (xh ha hb I h fun v u s2 x y H2 I2 rx ry q=>hr a b pins s2 σ H2 x y v u Q I2 rx ry q (hs _ _))
def yS (K:PySem.W.Frag):R2:=fun x y H Q=>∃ p xs i v,x=.ref p∧y=.int i∧SqL K H p xs∧atI xs i=some v∧Q v H
def yR (K:PySem.W.Frag):R2:=fun x y H Q=>∃ p xs i v,x=.ref p∧y=.int i∧SqT K H p xs∧atI xs i=some v∧Q v H
theorem cI:IxR X (yS X.K):=by
 intro value slice pins s σ H x y v u Q I rx ry h hs
 obtain⟨p,xs,i,z,rfl,rfl,hq,he,q⟩:=h
 cases rx
 obtain⟨t,rfl⟩:=ry
 obtain⟨its,r,pl,hz⟩:=I.list hq
 obtain⟨j,h1,h2,h3,h4,h5⟩:=pK he
 obtain⟨w,ew,rw'⟩:=r.get h2
 have hl:=r.length
 have hn:=jj
 have fin:EP X pins σ Q w s:=⟨z,H,I,rw',q⟩
 by_cases h0:0≤i
 ·have hj:i.toNat=j:=by
   rw [seqIndex_of h0 h5] at h1
   exact Option.some.inj h1
  exact item_listR pl.isList h0 (by omega) (by rw [hj]; simpa using ew) fin hs
 ·have hj:(i+(its.toArray.size:Int)).toNat=j:=by
   rw [seqIndex_neg (by omega) h4] at h1
   rw [List.size_toArray,← hl]
   exact Option.some.inj h1
  exact subscriptTail_builtinR (x:=w) pl.isList.typeIs slot_list_getitem.lookup
   (wpAny_getItem_list_neg (Q:=fun r s'=>r=w∧EP X pins σ Q r s') pl.isList (by omega) (by rw [List.size_toArray] <;> omega) (by omega) (by rw [hj]; simpa using ew) ⟨rfl,fin⟩) hs
theorem cB:IxR X (yR X.K):=by
 intro value slice pins s σ H x y v u Q I rx ry h hs
 obtain⟨p,xs,i,z,rfl,rfl,hq,he,q⟩:=h
 cases rx
 obtain⟨t,rfl⟩:=ry
 obtain⟨its,r,pl,hz⟩:=I.tuple hq
 obtain⟨j,h1,h2,h3,h4,h5⟩:=pK he
 obtain⟨w,ew,rw'⟩:=r.get h2
 have hl:=r.length
 have hn:=jj
 have fin:EP X pins σ Q w s:=⟨z,H,I,rw',q⟩
 exact subscriptTail_builtinR (x:=w) pl.typeIs slot_tuple_getitem.lookup
  (getItem_tuple (j:=j) (Q:=fun r s'=>r=w∧EP X pins σ Q r s') pl (by omega) (by omega) (by rw [List.size_toArray,← hl]; exact h1) (by simpa using ew) ⟨rfl,fin⟩) hs
theorem nZ (its:List Value) (n j:Nat) (u:Value):Obj.mapSeq (·.setIfInBounds j u) {cls:=.type "list",data:=.seq its.toArray n}={cls:=.type "list",data:=.seq (its.set j u).toArray n}:=by
 simp [Obj.mapSeq]
theorem Inv.lst {pins:List (Addr×Obj)} {σ:St} {H:Hp} {s:Shared} {p:Addr} {xs:List V} (I:Inv X pins σ H s) (h:H p=some (.lst xs)) :
  ∃ (its:List Value) (n:Nat),aI xs its∧s.heap.get? p=some {cls:=.type "list",data:=.seq its.toArray n}∧xs.length≤sizeLine:=by
 obtain⟨z,its,n,r,e⟩:=I.hok p _ h
 exact⟨its,n,r,e,z⟩
theorem Inv.lstUpd {pins:List (Addr×Obj)} {σ:St} {H:Hp} {s:Shared} {p:Addr} {xs ys:List V} {its its':List Value} {n n':Nat} {f:Obj→Obj} (I:Inv X pins σ H s) (h:H p=some (.lst xs))
  (ho:s.heap.get? p=some {cls:=.type "list",data:=.seq its.toArray n}) (hf:f {cls:=.type "list",data:=.seq its.toArray n}={cls:=.type "list",data:=.seq its'.toArray n'}) (r:aI ys its') (hz:ys.length≤sizeLine) (t:Nat) :
  Inv X pins σ (upd H p (.lst ys)) {s with heap:=s.heap.update p f,toks:=t}:=by
 have e:(s.heap.update p f).get? p=some {cls:=.type "list",data:=.seq its'.toArray n'}:=by
  rw [Heap.get?_update_self f ho (by rw [hf] <;> rfl),hf]
 refine I.write (x:=p) (e:=p) (by rw [h]; trivial) (.inl rfl) (fun b u hb q=>(Heap.get?_update_other _ _ (Ne.symm hb)).trans q) ⟨_,e⟩ ?_
 exact⟨hz,its',n',r,e⟩
def xT:V→V→V→Hp→(Hp→Prop)→Prop:=fun o i v H Q=>∃ p xs k j,o=.ref p∧i=.int k∧H p=some (.lst xs)∧ixN xs.length k=some j∧Q (upd H p (.lst (xs.set j v)))
theorem lK:yE X xT:=by
 intro pins s σ H o i v ov iv u Q I ro ri rv h
 obtain⟨p,xs,k,j,rfl,rfl,hp,hj,q⟩:=h
 cases ro
 obtain⟨t,rfl⟩:=ri
 obtain⟨its,n,r,ho,hz⟩:=I.lst hp
 obtain⟨h1,h2,h3,h4⟩:=pC hj
 have hl:=r.length
 have hn:=jj
 have I':Inv X pins σ (upd H p (.lst (xs.set j v))) {s with heap:=s.heap.update p (Obj.mapSeq (·.setIfInBounds j u))}:=
  I.lstUpd hp ho (nZ its n j u) (r.set rv j) (by rw [List.length_set]; exact hz) s.toks
 by_cases h0:0≤k
 ·have hk:k.toNat=j:=by
   rw [seqIndex_of h0 h4] at h1
   exact Option.some.inj h1
  exact PySem.W.ki_setAt ho h0 (by omega) (by rw [List.size_toArray,← hl]; exact h4) (by rw [hk]; exact⟨_,I',q⟩)
 ·have hk:(k+(its.toArray.size:Int)).toNat=j:=by
   rw [seqIndex_neg (by omega) h3] at h1
   rw [List.size_toArray,← hl]
   exact Option.some.inj h1
  exact PySem.W.ki_setBack ho (by omega) (by rw [List.size_toArray,← hl]; exact h3) (by omega) (by rw [hk]; exact⟨_,I',q⟩)
theorem kq (lo hi:Option Int) (n:Nat):(sliceBounds lo hi none n).1=((HT.sIx n 0 lo:Nat):Int)∧(sliceBounds lo hi none n).2.1=((HT.sIx n n hi:Nat):Int)∧(sliceBounds lo hi none n).2.2=1:=by
 refine⟨?_,?_,rfl⟩
 ·cases lo with
  | none=>simp [sliceBounds,HT.sIx]
  | some i=>
   simp only [sliceBounds,HT.sIx,Option.getD_none,show (1:Int) > 0 by decide,if_true]
   by_cases h:i<0
   ·simp only [h,if_true] <;> omega
   ·simp only [h,if_false] <;> omega
 ·cases hi with
  | none=>simp [sliceBounds,HT.sIx]
  | some i=>
   simp only [sliceBounds,HT.sIx,Option.getD_none,show (1:Int) > 0 by decide,if_true]
   by_cases h:i<0
   ·simp only [h,if_true] <;> omega
   ·simp only [h,if_false] <;> omega
theorem jH (its:List Value) (lo hi:Option Int):slicePick its.toArray lo hi none=((its.drop (HT.sIx its.length 0 lo)).take (HT.sIx its.length its.length hi-HT.sIx its.length 0 lo)).toArray:=by
 obtain⟨h1,h2,h3⟩:=kq lo hi its.toArray.size
 unfold slicePick
 rw [h1,h2,h3]
 simp only [sliceRange_one,pick_run,List.size_toArray] <;> rfl
def yQ (K:PySem.W.Frag):V→Option Int→Option Int→Hp→VK→Prop:=fun x lo hi H Q=>∃ a xs,x=.ref a∧SqL K H a xs∧∀ p,H p=none→Q (.ref p) (upd H p (.lst (cutV xs lo hi)))
theorem o8:SlR X (yQ X.K):=by
 intro pins s σ H x v vl vu lo hi sl Q I rx hs pl pu h
 obtain⟨a,xs,rfl,hx,q⟩:=h
 cases rx
 obtain⟨its,r,ht,hz⟩:=I.list hx
 have hlen:=r.length
 refine⟨"list",_,slot_list_getitem.lookup,ht.isList.typeIs,?_⟩
 refine wpAny_getItem_list_slice ht.isList hs pl pu .none (by simp) ?_ (by rw [List.size_toArray] <;> omega)
 rw [jH,← hlen]
 refine⟨.ref s.heap.objs.size,_,I.laid (t':=s.toks) (o:=.lst (cutV xs lo hi)) (fun b ob q=>Heap.get?_push_of_some _ q) (Nat.le_refl _) ?_,rfl,q _ (I.hok.fresh (Nat.le_refl _))⟩
 exact⟨Nat.le_trans (mL xs lo hi) hz,_,0,(r.drop (HT.sIx xs.length 0 lo)).take (HT.sIx xs.length xs.length hi-HT.sIx xs.length 0 lo),Heap.get?_push_size _ rfl⟩
def fE:V→Bool
 | .non=>true
 | .bl _=>true
 | .int _=>true
 | .str _=>true
 | _=>false
def eqV:V→V→Bool
 | .non,.non=>true
 | .bl a,.bl b=>a==b
 | .bl a,.int b=>(if a then 1 else 0)==b
 | .int a,.bl b=>a==(if b then 1 else 0)
 | .int a,.int b=>a==b
 | .str a,.str b=>a==b
 | _,_=>false
theorem wY {A:Around} {s:Shared} {y x:V} {u v:Value} (ry:aM y u) (rx:aM x v) (fy:fE y=true) (fx:fE x=true):SeqAt.EqAt A s u v (eqV y x):=by
 cases y with
 | non=>
  cases ry
  cases x with
  | non=>cases rx; exact SeqAt.EqAt.same _
  | bl b=>cases rx; exact SeqAt.EqAt.none_bool b
  | int b=>obtain⟨t,rfl⟩:=rx; exact SeqAt.EqAt.none_int b t
  | str b=>obtain⟨t,rfl⟩:=rx; exact SeqAt.EqAt.none_str b t
  | _=>exact absurd (show false=true from fx) Bool.false_ne_true
 | bl a=>
  cases ry
  cases x with
  | non=>cases rx; exact SeqAt.EqAt.bool_none a
  | bl b=>cases rx; exact SeqAt.EqAt.bool_bool a b
  | int b=>obtain⟨t,rfl⟩:=rx; exact SeqAt.EqAt.bool_int a b t
  | str b=>obtain⟨t,rfl⟩:=rx; exact SeqAt.EqAt.bool_str a b t
  | _=>exact absurd (show false=true from fx) Bool.false_ne_true
 | int a=>
  obtain⟨t',rfl⟩:=ry
  cases x with
  | non=>cases rx; exact SeqAt.EqAt.int_none a t'
  | bl b=>cases rx; exact SeqAt.EqAt.int_bool a t' b
  | int b=>obtain⟨t,rfl⟩:=rx; exact SeqAt.EqAt.int_int a t' b t
  | str b=>obtain⟨t,rfl⟩:=rx; exact SeqAt.EqAt.int_str a t' b t
  | _=>exact absurd (show false=true from fx) Bool.false_ne_true
 | str a=>
  obtain⟨t',rfl⟩:=ry
  cases x with
  | non=>cases rx; exact SeqAt.EqAt.str_none a t'
  | bl b=>cases rx; exact SeqAt.EqAt.str_bool a t' b
  | int b=>obtain⟨t,rfl⟩:=rx; exact SeqAt.EqAt.str_int a t' b t
  | str b=>obtain⟨t,rfl⟩:=rx; exact SeqAt.EqAt.str_str a t' b t
  | _=>exact absurd (show false=true from fx) Bool.false_ne_true
 | _=>exact absurd (show false=true from fy) Bool.false_ne_true
def eqU (x:V) (u:Value):Bool:=match u with
 | .none=>eqV .non x
 | .bool b=>eqV (.bl b) x
 | .int i _=>eqV (.int i) x
 | .str z _=>eqV (.str z) x
 | _=>false
theorem tQ {x y:V} {u:Value} (r:aM y u) (f:fE y=true):eqU x u=eqV y x:=by
 cases y with
 | non=>cases r; rfl
 | bl b=>cases r; rfl
 | int i=>obtain⟨t,rfl⟩:=r; rfl
 | str z=>obtain⟨t,rfl⟩:=r; rfl
 | _=>exact absurd (show false=true from f) Bool.false_ne_true
theorem gQ {x:V}:∀ {xs:List V} {us:List Value},aI xs us→xs.all fE=true→us.any (eqU x)=xs.any fun y=>eqV y x
 | _,_,.nil,_=>rfl
 | y::xs,u::us,.cons r t,f=>by
  rw [List.all_cons,Bool.and_eq_true] at f
  rw [List.any_cons,List.any_cons,tQ r f.1,gQ t f.2]
theorem fz {A:Around} {s:Shared} {x:V} {v:Value} (rx:aM x v) (fx:fE x=true):∀ {xs:List V} {us:List Value},aI xs us→xs.all fE=true→∀ u∈us,SeqAt.EqAt A s u v (eqU x u)
 | _,_,.nil,_=>fun u hu=>by cases hu
 | y::xs,u::us,.cons r t,f=>fun u' hu=>by
  rw [List.all_cons,Bool.and_eq_true] at f
  rcases List.mem_cons.mp hu with rfl | hu
  ·rw [tQ r f.1]; exact wY r rx f.1 fx
  ·exact fz rx fx t f.2 u' hu
def inV (x:V) (xs:List V):Bool:=xs.any fun y=>eqV y x
def rIn (K:PySem.W.Frag) (neg:Bool):R2:=fun x y H Q=>∃ p xs,y=.ref p∧(SqL K H p xs∨SqT K H p xs)∧fE x=true∧xs.all fE=true∧Q (.bl (if neg then !inV x xs else inV x xs)) H
theorem qe:OpR X (compareOp .In) (rIn X.K false):=by
 intro pins s σ H x y v u Q I rx ry h
 obtain⟨p,xs,rfl,hq,fx,fs,q⟩:=h
 cases ry
 rcases hq with hq | hq
 ·obtain⟨its,r,pl,hz⟩:=I.list hq
  refine SeqAt.in_listAt (eqU x) pl.isList (fun w hw=>fz rx fx r fs w (by simpa using hw)) ⟨.bl _,H,I,rfl,?_⟩
  rw [show its.toArray.any (eqU x)=its.any (eqU x) by simp,gQ r fs]
  exact q
 ·obtain⟨its,r,pl,hz⟩:=I.tuple hq
  refine SeqAt.in_tupleAt (eqU x) pl (fun w hw=>fz rx fx r fs w (by simpa using hw)) ⟨.bl _,H,I,rfl,?_⟩
  rw [show its.toArray.any (eqU x)=its.any (eqU x) by simp,gQ r fs]
  exact q
theorem kI:OpR X (compareOp .NotIn) (rIn X.K true):=by
 intro pins s σ H x y v u Q I rx ry h
 obtain⟨p,xs,rfl,hq,fx,fs,q⟩:=h
 cases ry
 rcases hq with hq | hq
 ·obtain⟨its,r,pl,hz⟩:=I.list hq
  refine SeqAt.notIn_listAt (eqU x) pl.isList (fun w hw=>fz rx fx r fs w (by simpa using hw)) ⟨.bl _,H,I,rfl,?_⟩
  rw [show its.toArray.any (eqU x)=its.any (eqU x) by simp,gQ r fs]
  exact q
 ·obtain⟨its,r,pl,hz⟩:=I.tuple hq
  refine SeqAt.notIn_tupleAt (eqU x) pl (fun w hw=>fz rx fx r fs w (by simpa using hw)) ⟨.bl _,H,I,rfl,?_⟩
  rw [show its.toArray.any (eqU x)=its.any (eqU x) by simp,gQ r fs]
  exact q
theorem aV:cX X (.builtin "len") (fun xs H Q=>∃ p ys,xs=[.ref p]∧(SqL X.K H p ys∨SqT X.K H p ys)∧Q (.int ys.length) H):=by
 intro pins s σ H xs us Q I r h
 obtain⟨p,ys,rfl,hq,q⟩:=h
 obtain⟨u,rfl,rx⟩:=eB r
 cases rx
 have hn:=jj
 rcases hq with hq | hq
 ·obtain⟨its,r',pl,hz⟩:=I.list hq
  have hlen:=r'.length
  exact Calls.call_len_list pl.isList (by simp only [List.size_toArray] <;> omega) ⟨.int ys.length,H,I.tok _,⟨s.toks+1,by rw [List.size_toArray,hlen]⟩,q⟩
 ·obtain⟨its,r',pl,hz⟩:=I.tuple hq
  have hlen:=r'.length
  exact len_tuple pl (by simp only [List.size_toArray] <;> omega) ⟨.int ys.length,H,I.tok _,⟨s.toks+1,by rw [List.size_toArray,hlen]⟩,q⟩
theorem kW:cX X (.builtin "len") (fun xs H Q=>∃ z,xs=[.str z]∧z.length≤sizeLine∧Q (.int z.length) H):=by
 intro pins s σ H xs us Q I r h
 obtain⟨z,rfl,hz,q⟩:=h
 obtain⟨u,rfl,t,rfl⟩:=eB r
 have hn:=jj
 exact len_str (by omega) ⟨.int z.length,H,I.tok _,⟨_,rfl⟩,q⟩
theorem dW:cX X (.type "list") (fun xs H Q=>∃ p ys,xs=[.ref p]∧(SqL X.K H p ys∨SqT X.K H p ys)∧∀ l,H l=none→Q (.ref l) (upd H l (.lst ys))):=by
 intro pins s σ H xs us Q I r h
 obtain⟨p,ys,rfl,hq,q⟩:=h
 obtain⟨u,rfl,rx⟩:=eB r
 cases rx
 have fin:∀ (its:List Value),aI ys its→ys.length≤sizeLine→∀ (h':Heap) (c':Nat),(∀ b o',s.heap.get? b=some o'→h'.get? b=some o')→
   h'.get? s.heap.objs.size=some {cls:=.type "list",dict:=none,data:=.seq its.toArray c',slots:=#[]}→EP X pins σ Q (.ref s.heap.objs.size) {s with heap:=h'}:=fun its r' hz h' c' kp e=>
  ⟨.ref s.heap.objs.size,_,I.laid (t':=s.toks) kp (Nat.le_refl _) (show bh X.prog X.w _ h' _ (.lst ys) from ⟨hz,its,c',r',e⟩),rfl,q _ (I.hok.fresh (Nat.le_refl _))⟩
 rcases hq with hq | hq
 ·obtain⟨its,r',pl,hz⟩:=I.list hq
  have hlen:=r'.length
  obtain⟨o,ho,hc,n,hd⟩:=pl.isList
  exact call_list_seq p (.inl rfl) ho hc hd (fun h' c' kp e=>fin its r' hz h' c' kp e) (by simp only [List.size_toArray] <;> omega)
 ·obtain⟨its,r',pl,hz⟩:=I.tuple hq
  have hlen:=r'.length
  obtain⟨o,ho,hc,n,hd⟩:=pl
  exact call_list_seq p (.inr rfl) ho hc hd (fun h' c' kp e=>fin its r' hz h' c' kp e) (by simp only [List.size_toArray] <;> omega)
theorem cF:cX X (.type "tuple") (fun xs H Q=>∃ p ys,xs=[.ref p]∧((SqL X.K H p ys∧∀ l,H l=none→Q (.ref l) (upd H l (.tup ys)))∨(SqT X.K H p ys∧Q (.ref p) H))):=by
 intro pins s σ H xs us Q I r h
 obtain⟨p,ys,rfl,h⟩:=h
 obtain⟨u,rfl,rx⟩:=eB r
 cases rx
 rcases h with ⟨hq,q⟩ | ⟨hq,q⟩
 ·obtain⟨its,r',pl,hz⟩:=I.list hq
  have hlen:=r'.length
  refine call_tuple_list pl.isList (fun h' kp=>?_) (by simp only [List.size_toArray] <;> omega)
  have I1:Inv X pins σ H {s with heap:=h'}:=I.kept (t':=s.toks) kp
  have I2:Inv X pins σ (upd H h'.objs.size (.tup ys)) {s with heap:=h'.push {cls:=.type "tuple",data:=.seq its.toArray}}:=
   I1.laid (t':=s.toks) (fun b o e=>Heap.get?_push_of_some _ e) (Nat.le_refl _) (show bh X.prog X.w _ _ _ (.tup ys) from ⟨hz,its,r',IsTup.new _ _⟩)
  exact⟨.ref h'.objs.size,_,I2,rfl,q _ (I1.hok.fresh (Nat.le_refl _))⟩
 ·obtain⟨its,r',pl,hz⟩:=I.tuple hq
  exact call_tuple_same pl ⟨.ref p,H,I,rfl,q⟩
def tyV (K:PySem.W.Frag) (T:String) (x:V) (H:Hp):Prop:=match x with
 | .str _=>T="str"
 | .int _=>T="int"
 | .ref p=>(T="list"∧∃ xs,SqL K H p xs)∨(T="tuple"∧∃ o,K.lookup p=some o∧o.cls=.type "tuple"∧o.dict=none)∨
   (T="dict"∧((∃ kvs,H p=some (.dK kvs))∨∃ kvs,H p=some (.dT kvs)))∨(T="set"∧∃ S n,H p=some (.set S n))
 | _=>False
theorem qW {pins:List (Addr×Obj)} {σ:St} {H:Hp} {s:Shared} {T:String} {x:V} {v:Value} (I:Inv X pins σ H s) (r:aM x v) (ty:tyV X.K T x H) :
  s.TypeIs v T∧∀ a,v=.ref a→∃ ob,s.heap.get? a=some ob∧ob.dict=none:=by
 cases x with
 | str z=>
  obtain⟨t,rfl⟩:=r
  cases (show T="str" from ty)
  exact⟨typeIs_str s z t,fun _ e=>nomatch e⟩
 | int i=>
  obtain⟨t,rfl⟩:=r
  cases (show T="int" from ty)
  exact⟨typeIs_int s i t,fun _ e=>nomatch e⟩
 | ref p=>
  cases r
  rcases ty with ⟨rfl,xs,hq⟩ | ⟨rfl,o,hk,hc,hd⟩ | ⟨rfl,hk⟩ | ⟨rfl,S,n,hk⟩
  ·obtain⟨its,_,pl,_⟩:=I.list hq
   refine⟨pl.isList.typeIs,fun a e=>?_⟩
   cases e
   obtain⟨o,n,e,c,hd,_⟩:=pl
   exact⟨o,e,hd⟩
  ·refine⟨⟨o,I.kIn p o hk,hc⟩,fun a e=>?_⟩
   cases e
   exact⟨o,I.kIn _ o hk,hd⟩
  ·have z:∃ o,s.heap.get? p=some o∧o.ExactDict:=by
    rcases hk with ⟨kvs,hk⟩ | ⟨kvs,hk⟩
    ·obtain⟨_,_,_,_,o,_,_,e,ex,_⟩:=I.hok p _ hk
     exact⟨o,e,ex⟩
    ·obtain⟨_,_,_,_,o,_,_,e,ex,_⟩:=I.hok p _ hk
     exact⟨o,e,ex⟩
   obtain⟨o,e,ex⟩:=z
   refine⟨⟨o,e,ex.1⟩,fun a e2=>?_⟩
   cases e2
   exact⟨o,e,ex.2.1⟩
  ·obtain⟨o,_,_,_,e,ex,_⟩:=I.hok p _ hk
   refine⟨⟨o,e,ex.1⟩,fun a e2=>?_⟩
   cases e2
   exact⟨o,e,ex.2.1⟩
 | _=>exact False.elim ty
def yN (K:PySem.W.Frag) (T:String) (r:V→List V→Hp→VK→Prop) (to:TE):TE:=fun σ H Q=>to σ H fun x H1=>tyV K T x H1∧r x [] H1 Q
def tBM (K:PySem.W.Frag) (T:String) (r:V→List V→Hp→VK→Prop) (to:TE) (t:TA):TE:=fun σ H Q=>to σ H fun x H1=>tyV K T x H1∧t σ H1 fun xs H2=>r x xs H2 Q
variable {o e:Expr} {es:List Expr} {to:TE} {t:TA} {name:Str} {apos cpos:Pos} {T id:String} {r:V→List V→Hp→VK→Prop}
theorem rP (pa:PlainAttrs T) (slot:Slot T name id) (hty:typeOf (.builtin id)=pure (.type "method_descriptor")) (hm:MtR X id r) (ho:PE X o to)
  (hbase:attributeBase o name X.env (eval o X.env)=eval o X.env:=by rfl) (hline:(apos.endLine==cpos.line)=true:=by rfl):PE X (.Call (.Attribute o name apos) [] [] cpos) (yN X.K T r to):=by
 intro pins s σ H Q I h
 refine wpAny_Call_method0_late hbase hline (thn (ho pins s σ H _ I h) fun v s1 ⟨x,H1,I1,r1,ty,q1⟩=>?_)
 obtain⟨h1,h2⟩:=qW I1 r1 ty
 exact⟨T,id,pa,slot,hty,h1,h2,Calls.callWith_builtin rfl (PySem.evalArgs_none (hm pins s1 σ H1 x [] v [] Q I1 r1 .nil q1))⟩
theorem jb (pa:PlainAttrs T) (slot:Slot T name id) (hty:typeOf (.builtin id)=pure (.type "method_descriptor")) (hm:MtR X id r) (ho:PE X o to) (ha:PA X (e::es) t)
  (hbase:attributeBase o name X.env (eval o X.env)=eval o X.env:=by rfl)
  (hfew:((backTo cpos (starEach (e::es) X.env)).all (fun x=>!x.1)&&(backToKw cpos (keywordEach [] X.env)).all (fun x=>x.1.isSome)
   && decide ((e::es).length+([]:List Keyword).length+(if ([]:List Keyword).isEmpty then 0 else 1)<30))=true:=by rfl)
  (hline:(apos.endLine==cpos.line)=true:=by rfl) (hs:starEach (e::es) X.env=(false,eval e X.env)::starEach es X.env:=by rfl) (hplain:(backTo cpos (starEach es X.env)).any (·.1)=false:=by rfl) :
  PE X (.Call (.Attribute o name apos) (e::es) [] cpos) (tBM X.K T r to t):=by
 intro pins s σ H Q I h
 refine wpAny_Call_method_late hbase hfew hline rfl (thn (ho pins s σ H _ I h) fun v s1 ⟨x,H1,I1,r1,ty,q1⟩=>?_)
 obtain⟨h1,h2⟩:=qW I1 r1 ty
 refine⟨T,id,pa,slot,hty,h1,h2,?_⟩
 have hA:=ha cpos pins s1 σ H1 _ I1 q1
 rw [hs] at hA ⊢
 refine Calls.callWith_builtin (by show (false||(backTo cpos (starEach es X.env)).any (·.1))=false; rw [hplain] <;> rfl) (Calls.evalArgs_plain ?_)
 exact thn hA fun us s2 ⟨vs,H2,I2,r2,q2⟩=>hm pins s2 σ H2 x vs v us Q I2 r1 r2 q2
end
def MtM (X:Cx) (id:String) (r:V→List V→Hp→VK→Prop):Prop:=
 ∀ (pins:List (Addr×Obj)) (s:Shared) (σ:St) (H:Hp) (x:V) (xs:List V) (v:Value) (us:List Value) (Q:VK),Inv X pins σ H s→aM x v→aI xs us→r x xs H Q→
  wpAny (model X.prog X.w) X.A (call (.builtin id) (v::us)) (EP X pins σ Q) X.xe s
theorem aI.one:∀ {x:V} {us:List Value},aI [x] us→∃ u,us=[u]∧aM x u
 | _,_,.cons r .nil=>⟨_,rfl,r⟩
theorem aI.zero:∀ {us:List Value},aI [] us→us=[]
 | _,.nil=>rfl
theorem aI.eraseIdx:∀ {xs:List V} {us:List Value} (i:Nat),aI xs us→aI (xs.eraseIdx i) (us.eraseIdx i)
 | _,_,_,.nil=>.nil
 | _,_,0,.cons _ t=>t
 | _,_,i+1,.cons r t=>.cons r (aI.eraseIdx i t)
theorem jX {α:Type}:∀ (l:List α) (i:Nat),(l.eraseIdx i).length≤l.length
 | [],_=>Nat.le_refl _
 | _::_,0=>Nat.le_succ _
 | _::r,i+1=>Nat.succ_le_succ (jX r i)
section
variable {X:Cx} {pins:List (Addr×Obj)} {σ:St} {H:Hp} {s:Shared} {l b:Addr} {xs ys zs:List V}
theorem Inv.lset {its its':List Value} {n:Nat} {f:Array Value→Array Value} {t':Nat} (I:Inv X pins σ H s) (hH:H l=some (.lst xs))
  (e:s.heap.get? l=some {cls:=.type "list",data:=.seq its.toArray n}) (hf:f its.toArray=its'.toArray) (hv:aI ys its') (hz:ys.length≤sizeLine) :
  Inv X pins σ (upd H l (.lst ys)) {s with heap:=s.heap.update l (Obj.mapSeq f),toks:=t'}:=by
 have q:=PySem.IsL.update e f
 rw [hf] at q
 refine I.write (x:=l) (e:=l) (by rw [hH]; exact trivial) (.inl rfl) (fun b' u hb hu=>(Heap.get?_update_other s.heap (Obj.mapSeq f) (Ne.symm hb)).trans hu) ⟨_,q⟩ ?_
 exact⟨hz,its',_,hv,q⟩
theorem Inv.lnew {its:List Value} {t':Nat} (I:Inv X pins σ H s) (hv:aI ys its) (hz:ys.length≤sizeLine) :
  Inv X pins σ (upd H s.heap.objs.size (.lst ys)) {s with heap:=s.heap.push {cls:=.type "list",data:=.seq its.toArray},toks:=t'}:=
 I.laid (fun _ _ q=>Heap.get?_push_of_some _ q) (Nat.le_refl _) ⟨hz,its,0,hv,Heap.get?_push_size _ rfl⟩
theorem Inv.fresh (I:Inv X pins σ H s):H s.heap.objs.size=none:=I.hok.fresh (Nat.le_refl _)
theorem Inv.lstM (I:Inv X pins σ H s) (hH:H l=some (.lst xs)):xs.length≤sizeLine∧∃ (its:List Value) (n:Nat),aI xs its∧xs.length=its.length∧s.heap.get? l=some {cls:=.type "list",data:=.seq its.toArray n}:=by
 obtain⟨z,its,n,r,e⟩:=I.hok l _ hH
 exact⟨z,its,n,r,r.length,e⟩
theorem sv {n:Nat} (h:n≤sizeLine):Builtin.List.listTooLong n=false:=by
 unfold Builtin.List.listTooLong
 exact decide_eq_false (by omega)
end
section
variable {X:Cx}
def uI:V→List V→Hp→VK→Prop:=fun x vs H Q=>∃ l xs y,x=.ref l∧vs=[y]∧H l=some (.lst xs)∧xs.length<sizeLine∧Q .non (upd H l (.lst (xs++[y])))
theorem jW:MtM X "list.append" uI:=by
 intro pins s σ H x vs v us Q I rx rv h
 obtain⟨l,xs,y,rfl,rfl,hH,hz,q⟩:=h
 cases rx
 obtain⟨u,rfl,ru⟩:=rv.one
 obtain⟨z,its,n,r,hl,e⟩:=I.lstM hH
 refine call_meets F.slot_list_append ⟨_,e,rfl⟩ F.entry_list_append (F.args_list_append_2 _ _) (PySem.list_append l its.toArray n u (by rw [List.size_toArray]; omega)) ⟨e,?_⟩
 refine⟨.non,_,I.lset (its':=its++[u]) hH e (by simp) (r.append (.cons ru .nil)) ?_,rfl,q⟩
 rw [List.length_append,List.length_singleton]
 omega
def uH:V→List V→Hp→VK→Prop:=fun x vs H Q=>∃ l b xs zs,x=.ref l∧vs=[.ref b]∧H l=some (.lst xs)∧H b=some (.lst zs)∧xs.length+zs.length≤sizeLine∧Q .non (upd H l (.lst (xs++zs)))
theorem hJ:MtM X "list.extend" uH:=by
 intro pins s σ H x vs v us Q I rx rv h
 obtain⟨l,b,xs,zs,rfl,rfl,hH,hB,hz,q⟩:=h
 cases rx
 obtain⟨u,rfl,ru⟩:=rv.one
 cases ru
 obtain⟨z,its,n,r,hl,e⟩:=I.lstM hH
 obtain⟨z2,its2,n2,r2,hl2,e2⟩:=I.lstM hB
 have hsz:its.toArray.size+its2.toArray.size≤sizeLine:=by rw [List.size_toArray,List.size_toArray]; omega
 have hlong:¬ (!its.toArray.isEmpty&&Builtin.List.listTooLong (its.toArray.size+its2.toArray.size))=true:=by
  rw [sv hsz,Bool.and_false]
  exact Bool.false_ne_true
 refine call_meets F.slot_list_extend ⟨_,e,rfl⟩ F.entry_list_extend (F.args_list_extend_2 _ _)
  (AutoSeq1.list_extend_list_list_0 l its.toArray n b its2.toArray n2 hlong (by rw [List.size_toArray]; omega) (by omega)) ⟨e,e2,?_⟩
 refine⟨.non,_,I.lset (its':=its++its2) hH e (by simp) (r.append r2) ?_,rfl,q⟩
 rw [List.length_append]
 omega
def wD:V→List V→Hp→VK→Prop:=fun x vs H Q=>∃ l xs i k y,x=.ref l∧vs=[.int i]∧H l=some (.lst xs)∧-(2 ^ 63)≤i∧i<2 ^ 63∧seqIndex? i xs.length=some k∧xs[k]? = some y∧Q y (upd H l (.lst (xs.eraseIdx k)))
theorem sy:MtM X "list.pop" wD:=by
 intro pins s σ H x vs v us Q I rx rv h
 obtain⟨l,xs,i,k,y,rfl,rfl,hH,h1,h2,hk,hy,q⟩:=h
 cases rx
 obtain⟨u,rfl,ru⟩:=rv.one
 obtain⟨t,rfl⟩:=ru
 obtain⟨z,its,n,r,hl,e⟩:=I.lstM hH
 obtain⟨w,hw,rw'⟩:=r.get hy
 refine call_meets F.slot_list_pop ⟨_,e,rfl⟩ F.entry_list_pop (F.args_list_pop_2 _ _)
  (MeetsSeq.list_pop_at l its.toArray n i t k w (fitsIndex_both h1 h2) (by rw [List.size_toArray,← hl]; exact hk) (by rw [← Array.getElem?_toList]; exact hw) (by rw [List.size_toArray]; omega)) ⟨e,?_⟩
 refine⟨y,_,I.lset (its':=its.eraseIdx k) hH e ?_ (r.eraseIdx k) ?_,rw',q⟩
 ·show its.toArray.eraseIdxIfInBounds k=(its.eraseIdx k).toArray
  rw [List.eraseIdxIfInBounds_toArray]
 ·have:=jX xs k
  omega
def wE:V→List V→Hp→VK→Prop:=fun x vs H Q=>∃ l xs,x=.ref l∧vs=[]∧H l=some (.lst xs)∧Q .non (upd H l (.lst []))
theorem ma:MtM X "list.clear" wE:=by
 intro pins s σ H x vs v us Q I rx rv h
 obtain⟨l,xs,rfl,rfl,hH,q⟩:=h
 cases rx
 have hus:=rv.zero
 subst hus
 obtain⟨z,its,n,r,hl,e⟩:=I.lstM hH
 refine call_meets F.slot_list_clear ⟨_,e,rfl⟩ F.entry_list_clear (F.args_list_clear_1 _) (AutoSeq1.list_clear_list_0 l its.toArray n (by rw [List.size_toArray]; omega)) ⟨e,?_⟩
 exact⟨.non,_,I.lset (its':=[]) (ys:=[]) hH e rfl .nil (Nat.zero_le _),rfl,q⟩
def xV:R2:=fun x y H Q=>∃ l b xs zs,x=.ref l∧y=.ref b∧H l=some (.lst xs)∧H b=some (.lst zs)∧xs.length+zs.length≤sizeLine∧∀ p,H p=none→Q (.ref p) (upd H p (.lst (xs++zs)))
theorem fo:OpR X (binaryOp .Add) xV:=by
 intro pins s σ H x y v u Q I rx ry h
 obtain⟨l,b,xs,zs,rfl,rfl,hH,hB,hz,q⟩:=h
 cases rx
 cases ry
 obtain⟨z,its,n,r,hl,e⟩:=I.lstM hH
 obtain⟨z2,its2,n2,r2,hl2,e2⟩:=I.lstM hB
 refine PySem.P.add_list e e2 ?_ (by rw [List.size_toArray,List.size_toArray]; omega)
 have ea:its.toArray++its2.toArray=(its++its2).toArray:=by simp
 rw [ea]
 exact⟨.ref _,_,I.lnew (t':=s.toks) (r.append r2) (by rw [List.length_append]; omega),rfl,q _ I.fresh⟩
end
section
variable {prog:Program} {w:World} {A:Around} {E:Value→Shared→Prop} {s:Shared}
end
section
variable {X:Cx}
end
end L2
namespace Att
open PySem PySem.W PySem.Calls PyProof.Rows
theorem iG {P:Params} {h:Heap}:∀ (ns:List Int) (vs:List Value),WellAll P h vs (ns.map WData.int)→IntsAre vs ns:=by
 intro ns
 induction ns with
 | nil=>
  intro vs w
  rw [List.map_nil] at w
  cases w
  exact .nil
 | cons n ns ih=>
  intro vs w
  rw [List.map_cons] at w
  cases w with
  | cons a b=>
   cases a
   exact .cons _ _ (ih _ b)
theorem pZ {l:OpenLaw} {n:Nat} (hn:l.most=some n) {P:Params} {h:Heap} {args:List WData} {vals:List Value}
  (hpre:l.row.toRowW.claim.pre args=true) (hwl:WellAll P h vals args) :
  ∃ a vs ns,vals=[Value.ref a]∧args=[WData.list (ns.map WData.int)]∧h.get? a=some {cls:=.type "list",data:=.seq vs.toArray}∧IntsAre vs ns∧ns.length≤n:=by
 have hsh:WShape.hasAll [] args [.list .int]=true:=(pre_splitW hpre).1
 have hc:l.pre.holds [] {args:=args}=true:=(pre_splitW hpre).2
 obtain⟨d,r,rfl,h1,h2⟩:=hasAllW_cons hsh
 obtain rfl:=hasAllW_nil h2
 obtain⟨xs,rfl,h3⟩:=hasW_list h1
 obtain⟨ns,rfl⟩:=items_int h3
 have hlen:ns.length≤n:=by
  unfold OpenLaw.pre at hc
  have h4:(WTm.not (.lt (.lit (.int (n:Int))) (.len (.arg 0)))).holds [] {args:=[.list (ns.map .int)]}=true:=by
   have h4:=(holds_andW hc).1
   rw [hn] at h4
   exact h4
  have h5:=condW_of h4 (w_not (w_lt w_lit (w_len_list (w_arg rfl))))
  rw [List.length_map] at h5
  refine Nat.le_of_not_lt fun q=>?_
  have q':(n:Int)<((ns.length:Nat):Int):=by omega
  first
   | (rw [decide_eq_true q'] at h5; exact absurd h5 (by decide))
   | (simp at h5; omega)
 cases hwl with
 | cons w1 w2=>
  cases w2
  cases w1 with
  | list ho hall=>exact⟨_,_,ns,rfl,rfl,ho,iG ns _ hall,hlen⟩
theorem qb (l:OpenLaw) (args:List WData):l.row.toRowW.claim.post args (.bool true) args=true:=
 postW_of (r:=l.row.toRowW) (X:=(true==true))
  (show WShape.has [] (.bool true) .bool=true by first | rfl | decide | simp [WShape.has,WShape.arms,WShape.armsAll])
  (show (WTm.eq .res (.lit (.bool true))).value [] {args:=args,res:=some (.bool true),after:=args}=some (.bool (true==true)) from w_eq_bool (w_res rfl) w_lit) rfl
theorem attach_call {l:OpenLaw} {n:Nat} {q:Program} {loose:List Str} {XP:(Str→Option Value)→Heap→Prop} {YP:World→Heap→Prop} {d:DefRec}
  (hn:l.most=some n) (hdf:d.params.defaults=[])
  (call:∀ (w:World) (s₀ s₁:Shared) (mg mb:Str→Option Value) (fa:Addr) (o:Obj) (pm cd doc:Value) (a:Addr) (vs:List Value) (ns:List Int),
   Ground q loose [] XP w s₀ mg mb s₁.heap→YP w s₁.heap→
   s₁.heap.get? fa=some o→o.data=.func (docDef d.name d.params d.body d.scope pm cd doc)→s₁.heap.CodeRec cd d.name→mg d.name=some (.ref fa)→
   s₁.heap.get? a=some {cls:=.type "list",data:=.seq vs.toArray}→IntsAre vs ns→ns.length≤n→s₁.gens=#[]→
   codeAny (model l.prog w) callerA (.call (.ref fa) ⟨[.ref a],[]⟩) (fun r s'=>r=.ok (.ret (.bool true))∧OldK s₁.heap s'.heap∧s'.os=s₁.os∧AllBare s'.gens) s₁) :
  WalkO q loose XP YP l.row.toRowW d [] (fun f vs=>PySem.call f vs):=by
 intro w s₀ s₁ mg mb G Y fa o pm cd doc dV kV ho hd hcd hD hmg hg args vals as hpre hlay hrd hwl hlo
 obtain rfl:dV=.none:=Dflts.none hD hdf
 obtain rfl:kV=.none:=Dflts.noKw hD
 obtain⟨a,vs,ns,rfl,rfl,hobj,hints,hlen⟩:=pZ hn hpre hwl
 refine enter_call (codeAny_mono (call w s₀ s₁ mg mb fa o pm cd doc a vs ns G Y ho (fd_plain hd) hcd hmg hobj hints hlen hg) fun r s' hq=>?_)
 obtain⟨rfl,h2,h3,h4⟩:=hq
 exact⟨.inl ⟨.bool true,.bool true,[],rfl,fun _=>rfl,.bool true,qb l _,fun _=>⟨List.Pairwise.nil,fun _ hm=>(nomatch hm)⟩⟩,h2,h3,h4⟩
section
variable {prog:Program} {w:World} {A:Around} {E:Value→Shared→Prop} {s:Shared} {K:Frag}
end
end Att
namespace L2
open PySem PySem.Spec PyProof.Rows
theorem jM:∀ {vs:List Value} {ns:List Int},IntsAre vs ns→aI (ns.map V.int) vs
 | _,_,.nil=>.nil
 | _,_,.cons n t h=>.cons ⟨t,rfl⟩ (jM h)
def gJ (s:Stmt) (j:Nat):Stmt:=match s with
 | .ClassDef _ _ _ body _ _ _ _ _ _ _=>body.getD j (.Pass ⟨0,0,0,0⟩)
 | _=>.Pass ⟨0,0,0,0⟩
def de (s:Stmt):Arguments:=match s with
 | .FunctionDef _ a _ _ _ _ _ _ _ _=>a
 | _=>{posonlyargs:=[],args:=[],vararg:=none,kwonlyargs:=[],kw_defaults:=[],kwarg:=none,defaults:=[]}
def b7 (s:Stmt):List Stmt:=match s with
 | .FunctionDef _ _ b _ _ _ _ _ _ _=>b
 | _=>[]
def ah (s:Stmt):Scope:=match s with
 | .FunctionDef _ _ _ _ _ _ sc _ _ _=>sc
 | _=>{kind:=.function,names:=[],isGenerator:=false,isCoroutine:=false}
abbrev CX0:CXT:=fun _ _ _ _ _ _=>False
abbrev E0:XK:=fun _ _ _=>False
theorem ix {X:Cx}:gm CX0 X E0:=fun _ _ _ _ _ _ _ h=>h.elim
structure Fun (K:PySem.W.Frag) (x qual:Str) (st:Stmt) (f:Addr) (fd:FuncData):Prop where
 ex:∃ (oc:Value) (od:Option Addr) (kV doc pm:Value) (an:Option Addr) (cdv ct:Value) (osl:Array (Option Value)),
  fd=PySem.W.fnOf x qual (de st) (b7 st) (ah st) .none kV doc pm an cdv ct∧K.lookup f=some ⟨oc,od,.func fd,osl⟩∧PySem.W.codeIn K cdv qual=true
 kp:PySem.W.keepIn K (.ref f)=true
section
variable {P:Program} {w:World} {K:PySem.W.Frag} {mg:Str→Option Value} {base:Heap}
theorem Fun.ok {x qual:Str} {st:Stmt} {f:Addr} {fd:FuncData} {N ps:List Str} {k:Nat} {sp:Sp} (F:Fun K x qual st f fd) (S:aB N ps (ah st)) (len:∀ vs H Q E,sp vs H Q E→vs.length=ps.length)
  (hbody:∀ (cdv:Value) (A:Around) (outer:List Env) (s:Shared) (H:Hp) (vs:List V) (Q:VK) (E:XK),bN k (A.deeper (envOfC qual (ah st) s.heap.objs.size f cdv))→sp vs H Q E→
   ∃ t,PSs (jr CX0 P w K mg base N qual (ah st) f cdv A outer s H E).nox (b7 st) t∧t {nx:=fun _ H'=>Q .non H',rt:=Q} (cR N vs) H):dk P w K mg base CX0 (k+1) f fd ps sp:=by
 obtain⟨oc,od,kV,doc,pm,an,cdv,ct,osl,rfl,lk,hcd⟩:=F.ex
 refine tK lk hcd S len fun A outer s H vs Q E hr hsp=>?_
 obtain⟨t,h,q⟩:=hbody cdv A outer s H vs Q E hr hsp
 exact⟨t,h.nox,q⟩
theorem Fun.binds {x qual:Str} {st:Stmt} {f:Addr} {fd:FuncData} {ps:List Str} (F:Fun K x qual st f fd)
  (h:∀ (kV doc pm:Value) (an:Option Addr) (cdv ct:Value) (us:List Value),us.length=ps.length→bindArgs (PySem.W.fnOf x qual (de st) (b7 st) (ah st) .none kV doc pm an cdv ct) ⟨us,[]⟩=pure (ps.zip us)):cH K fd ps []:=by
 obtain⟨oc,od,kV,doc,pm,an,cdv,ct,osl,rfl,lk,hcd⟩:=F.ex
 exact .all (h kV doc pm an cdv ct)
theorem hZ {x qual:Str} {st:Stmt} {f:Addr} {oc:Value} {od an:Option Addr} {osl:Array (Option Value)} {kV doc pm cdv ct:Value} (l:K.lookup f=some ⟨oc,od,.func (PySem.W.fnOf x qual (de st) (b7 st) (ah st) .none kV doc pm an cdv ct),osl⟩)
  (c:PySem.W.codeIn K cdv qual=true) (k:PySem.W.keepIn K (.ref f)=true):Fun K x qual st f (PySem.W.fnOf x qual (de st) (b7 st) (ah st) .none kV doc pm an cdv ct):=⟨⟨oc,od,kV,doc,pm,an,cdv,ct,osl,rfl,l,c⟩,k⟩
end
theorem vY {A:Around} {k:Nat} (hr:bN k A):A.units+1<cLine:=Nat.lt_of_le_of_lt (Nat.add_le_add_left (by decide:1≤64) _) hr.units
section
variable {X:Cx}
end
theorem eX {A B:Prop} (h:B):if false=true then A else B:=by
 rw [if_neg Bool.false_ne_true]
 exact h
theorem oh {A B:Prop} (h:A):if true=true then A else B:=by
 rw [if_pos rfl]
 exact h
theorem sV {c A B:Prop} [Decidable c] (h1:c→A) (h2:¬ c→B):if c then A else B:=by
 by_cases h:c
 ·rw [if_pos h]
  exact h1 h
 ·rw [if_neg h]
  exact h2 h
def av (H H':Hp):Prop:=∀ b o,H b=some o→H' b=some o
theorem av.refl (H:Hp):av H H:=fun _ _ h=>h
theorem av.trans {H H1 H2:Hp} (a:av H H1) (b:av H1 H2):av H H2:=fun c o h=>b c o (a c o h)
theorem av.free {H H':Hp} (e:av H H') {l:Addr} (h:H' l=Option.none):H l=Option.none:=by
 cases q:H l with
 | none=>rfl
 | some o=>
  rw [e l o q] at h
  cases h
end L2
set_option maxHeartbeats 4000000
namespace L2
open PySem PySem.Spec PyProof.Rows
theorem fG {prog:Program} {w:World} {A:Around} {R:Result→Shared→Prop} {s:Shared} {elt target iter:Expr} {scope:Scope} {pos:Pos} {it acc:Value} {env:Env} (I:Nat→Shared→Prop)
  (turn:∀ n s,I n s→wpAny (model prog w) A (pyNext it) (fun r s1=>match r with
   | none=>R (.ok .next) s1
   | some v=>wpAny (model prog w) A (letOwnedTupleGo target it v) (fun _ s1'=>wpAny (model prog w) A (assign target env v) (fun _ s2=>
     wpAny (model prog w) A (eval elt env) (fun x s4=>
       wpAny (model prog w) A (call (.builtin "list.append") [acc,x]) (fun _ s5=>∃ m,m<n∧I m s5) (notedBy (model prog w) A env fun e s'=>R (.error e) s') s4) (notedBy (model prog w) A env fun e s'=>R (.error e) s') s2)
     (notedBy (model prog w) A env fun e s'=>R (.error e) s') s1') (notedBy (model prog w) A env fun e s'=>R (.error e) s') s1) (notedBy (model prog w) A env fun e s'=>R (.error e) s') s)
  (n:Nat) (h:I n s):codeAny (model prog w) A (.compLoop (.ListComp elt [⟨target,iter,[],0⟩] scope pos) 0 it acc env) R s:=by
 refine codeAny_loop rfl I (fun n s hI=>?_) n h
 show wpAny _ A ((compTurn (.ListComp elt [⟨target,iter,[],0⟩] scope pos) 0 it acc env).onRaise (fun x=>do noteFrame x env; theTreesLotGoes x)) _ _ s
 refine wpAny_noted ?_
 rw [compTurn_list]
 refine wpAny_bind (wpAny_standAt (wpAny_bind (wpAny_mono (turn n s hI) (fun r s1 h1=>?_) fun _ _ h'=>h')))
 cases r with
 | none=>exact wpAny_pure h1
 | some v=>
  refine wpAny_bind (wpAny_mono h1 (fun _ s1' h1'=>?_) fun _ _ h'=>h')
  refine wpAny_bind (wpAny_mono h1' (fun _ s2 h2=>wpAny_bind (wpAny_mono (wpAny_tests_nil (Q:=fun ok s3=>ok=true∧s3=s2) ⟨rfl,rfl⟩) (fun ok s3 h3=>?_) fun _ _ h'=>h')) fun _ _ h'=>h')
  obtain⟨rfl,rfl⟩:=h3
  exact wpAny_bind (wpAny_bind (wpAny_mono h2 (fun x s4 h4=>wpAny_bind (wpAny_mono h4 (fun _ s5 h5=>wpAny_pure (wpAny_pure ⟨rfl,h5⟩)) fun _ _ h'=>h')) fun _ _ h'=>h'))
theorem db {env:Env}:∀ {names:List (Str×NameKind)} {x:Str},
  (names.map fun (n,k)=>if (k==NameKind.free&&env.scope.kind==.function&&env.kindOf n==some .cell) then (n,NameKind.cell) else (n,k)).lookup x =
   (names.lookup x).map fun k=>if (k==NameKind.free&&env.scope.kind==.function&&env.kindOf x==some .cell) then NameKind.cell else k
 | [],_=>rfl
 | (n,k)::r,x=>by
  have ih:=@db env r x
  show List.lookup x ((if (k==NameKind.free&&env.scope.kind==.function&&env.kindOf n==some .cell)=true then (n,NameKind.cell) else (n,k))::_)=_
  cases hx:x==n with
  | true=>
   have e:x=n:=eq_of_beq hx
   subst e
   by_cases hc:(k==NameKind.free&&env.scope.kind==.function&&env.kindOf x==some .cell)=true
   ·rw [if_pos hc]; simp only [List.lookup_cons,hx,Option.map_some,hc,if_true]
   ·rw [if_neg hc]; simp only [List.lookup_cons,hx,Option.map_some,hc]; rfl
  | false=>
   by_cases hc:(k==NameKind.free&&env.scope.kind==.function&&env.kindOf n==some .cell)=true
   ·rw [if_pos hc]; simp only [List.lookup_cons,hx]; exact ih
   ·rw [if_neg hc]; simp only [List.lookup_cons,hx]; exact ih
def sM (n:Nat) (N' N:List Str) (names:List (Str×NameKind)):Bool:=
 (List.range N.length).all fun i=>match N'[n+i]? with
  | none=>true
  | some x=>(names.lookup x==some .free&&N[i]? == some x) || !(names.lookup x==some .local||names.lookup x==some .cell||names.lookup x==some .free)
structure bU (n:Nat) (N':List Str) (X:Cx) (scope:Scope):Prop where
 kind:scope.kind=.function
 names:∀ x∈scope.names,x.2=.local→scope.names.lookup x.1=some .local
 cell:∀ x∈scope.names,x.2≠.cell
 free:∀ x∈scope.names,x.2=.free→X.env.kindOf x.1=some .cell∨X.env.kindOf x.1=some .free
 nd:N'.Nodup
 len:N'.length=n+X.N.length
 look:sM n N' X.N scope.names=true
theorem d5 {scope:Scope} {env:Env} (hh:∀ x∈scope.names,x.2=.free→∃ c,env.cells.lookup x.1=some c) :
  ∃ cl,closureFor scope env=pure cl∧(∀ x c,cl.lookup x=some c→env.cells.lookup x=some c)∧∀ x∈scope.names,x.2=.free→∃ c,cl.lookup x.1=some c:=by
 have all:∀ (l:List (Str×NameKind)) (cs:List (Str×Addr)),(∀ x∈l,x.2=.free→∃ c,env.cells.lookup x.1=some c)→(∀ x c,cs.lookup x=some c→env.cells.lookup x=some c)→
   ∃ cl,(forIn l cs fun (x:Str×NameKind) r=>if x.2==NameKind.free then (do let a ← cellOf env x.1; pure (ForInStep.yield ((x.1,a)::r))) else pure (ForInStep.yield r):Sem (List (Str×Addr)))=pure cl∧
    (∀ x c,cl.lookup x=some c→env.cells.lookup x=some c)∧(∀ x∈l,x.2=.free→∃ c,cl.lookup x.1=some c)∧∀ x,(∃ c,cs.lookup x=some c)→∃ c,cl.lookup x=some c:=by
  intro l
  induction l with
  | nil=>intro cs _ h; exact⟨cs,rfl,h,(fun _ h=>nomatch h),fun _ h=>h⟩
  | cons y r ih=>
   intro cs hf h
   obtain⟨n,k⟩:=y
   by_cases hk:k=.free
   ·subst hk
    obtain⟨a,ha⟩:=hf (n,.free) List.mem_cons_self rfl
    have h':∀ x c,List.lookup x ((n,a)::cs)=some c→env.cells.lookup x=some c:=fun x c e=>by
     cases hx:x==n with
     | true=>
      simp only [List.lookup_cons,hx] at e
      have q:x=n:=eq_of_beq hx
      subst q
      rw [ha]; exact e
     | false=>
      simp only [List.lookup_cons,hx] at e
      exact h x c e
    obtain⟨cl,e1,e2,e3,e4⟩:=ih ((n,a)::cs) (fun x hx=>hf x (List.mem_cons_of_mem _ hx)) h'
    refine⟨cl,?_,e2,fun x hx hxf=>?_,fun x hx=>?_⟩
    ·rw [List.forIn_cons]
     have e5:cellOf env n=pure a:=by unfold cellOf; rw [ha]
     simp only [beq_self_eq_true,if_true,e5,pure_bind]
     exact e1
    ·rcases List.mem_cons.mp hx with rfl | hx
     ·exact e4 _ ⟨a,by simp [List.lookup_cons]⟩
     ·exact e3 x hx hxf
    ·obtain⟨c,hc⟩:=hx
     refine e4 x ?_
     cases hx:x==n with
     | true=>exact⟨a,by simp only [List.lookup_cons,hx]⟩
     | false=>exact⟨c,by simp only [List.lookup_cons,hx]; exact hc⟩
   ·obtain⟨cl,e1,e2,e3,e4⟩:=ih cs (fun x hx=>hf x (List.mem_cons_of_mem _ hx)) h
    refine⟨cl,?_,e2,fun x hx hxf=>?_,e4⟩
    ·rw [List.forIn_cons]
     have : (k==NameKind.free)=false:=by simpa using hk
     simp only [this,Bool.false_eq_true,if_false,pure_bind]
     exact e1
    ·rcases List.mem_cons.mp hx with rfl | hx
     ·exact absurd hxf hk
     ·exact e3 x hx hxf
 obtain⟨cl,e1,e2,e3,_⟩:=all scope.names [] hh (fun _ _ h=>nomatch h)
 refine⟨cl,?_,e2,e3⟩
 unfold closureFor
 refine Eq.trans (b:=(pure cl>>=fun cs=>pure cs)) ?_ rfl
 refine Eq.trans ?_ (congrArg (fun (m:Sem (List (Str×Addr)))=>m>>=fun cs=>pure cs) e1)
 rfl
def ax (X:Cx) (N':List Str) (scope:Scope) (cl:List (Str×Addr)) (C:Addr) (ex:List Addr) (s:Shared) (H:Hp):Cx:=
 {X with N:=N',s₀:=s,H₀:=H,env:=compEnvC scope cl C X.env,outer:=X.stack,ex:=ex,fn:=fun _=>false,pn:=[]}
section
variable {X:Cx} {n:Nat} {N':List Str} {scope:Scope} {elt tg iter:Expr} {pos:Pos} {pins:List (Addr×Obj)} {σ:St} {H2:Hp} {s2:Shared} {cl:List (Str×Addr)}
def dm (X:Cx) (pins:List (Addr×Obj)) (σ:St) (Q:VK) (acc:Value) (C:Addr) (s':Shared):Prop:=
 ∃ (D:Addr) (H':Hp) (m:Str→Option Value),acc=.ref D∧Inv X pins σ H' s'∧s'.heap.Ns C m∧fX X pins H' C∧Q (.ref D) H'
theorem ju {C D:Addr} {fp:List Addr} {s':Shared} {us:List Value} {k:Nat} (S:bU n N' X scope) (c1:∀ x c,cl.lookup x=some c→X.env.cells.lookup x=some c) (c2:∀ x∈scope.names,x.2=.free→∃ c,cl.lookup x.1=some c)
  (I2:Inv X pins σ H2 s2) (f2:∀ b∈fp,fX X pins H2 b) (fl:∀ b∈fp,@LT.lt Nat _ b s2.heap.objs.size) (hD:@Eq Nat D s2.heap.objs.size) (hC:@Eq Nat C (s2.heap.objs.size+1))
  (ho:s'.os=s2.os) (hg:s'.gens=s2.gens) (old:∀ b o,s2.heap.get? b=some o→s'.heap.get? b=some o) (hns:∃ m,s'.heap.Ns C m) (hd:s'.heap.get? D=some {cls:=.type "list",data:=.seq us.toArray k}) :
  Inv (ax X N' scope cl C fp s2 H2) [(D,{cls:=.type "list",data:=.seq us.toArray k})] (List.replicate n none++σ) H2 s':=by
 have frl:∀ b∈frs X.stack,@LT.lt Nat _ b s2.heap.objs.size:=fun b hb=>by
  obtain⟨_,o,ho,_⟩:=I2.stack.mem hb
  exact Heap.lt_size ho
 have celll:∀ x c,cl.lookup x=some c→c<s2.heap.objs.size:=fun x c e=>by
  obtain⟨v,q⟩:=I2.cell x c (c1 x c e)
  exact q.lt
 have kOf:∀ x,(ax X N' scope cl C fp s2 H2).env.kindOf x=(scope.names.lookup x).map fun k=>if (k==NameKind.free&&X.env.scope.kind==.function&&X.env.kindOf x==some .cell) then NameKind.cell else k:=fun x=>db
 have kfree:∀ x,((ax X N' scope cl C fp s2 H2).env.kindOf x=some .cell∨(ax X N' scope cl C fp s2 H2).env.kindOf x=some .free)→scope.names.lookup x=some .free:=fun x hx=>by
  rw [kOf x] at hx
  cases e:scope.names.lookup x with
  | none=>rw [e] at hx; rcases hx with hx | hx <;> cases hx
  | some kd=>
   rw [e] at hx
   cases kd with
   | free=>rfl
   | «local»=>rcases hx with hx | hx <;> (simp at hx)
   | cell=>exact absurd rfl (S.cell _ (PySem.mem_of_lookup e))
   | globalExplicit=>rcases hx with hx | hx <;> (simp at hx)
   | globalImplicit=>rcases hx with hx | hx <;> (simp at hx)
 have hasC:∀ x,scope.names.lookup x=some .free→∃ c,cl.lookup x=some c:=fun x hx=>c2 _ (PySem.mem_of_lookup hx) rfl
 have hH:∀ a,s2.heap.objs.size≤a→H2 a=none:=fun a ha=>I2.hok.fresh ha
 have ok:(ax X N' scope cl C fp s2 H2).Ok:=by
  refine⟨I2.ok.mod,S.kind,I2.ok.glob,I2.ok.blt,?_,fun x y c h1 h2=>?_,fun x hx=>hasC x (kfree x hx),fun x c h=>absurd h (by show ¬ (false=true); decide),I2.ok.hd,I2.ok.frames,.inl rfl,fun b hb=>?_,I2.bs,Nat.le_trans I2.ok.bsz I2.sz,fun b o e hb=>?_,fun b hb z=>?_,I2.stack,I2.stkFree⟩
  ·show s2.heap.objs.size≤C
   omega
  ·exact I2.ok.inj x y c (c1 x c h1) (c1 y c h2)
  ·have:=fl b hb
   refine⟨by show @Ne Nat b C; omega,fun x c e z=>?_⟩
   exact(f2 b hb).2.2.2.2.1 x c (c1 x c e) z
  ·obtain⟨f0,f1,ff,f3,_⟩:=f2 b hb
   rcases f3 with z | z
   ·exact I2.ok.noex b o e z
   ·have q1:@LT.lt Nat _ b X.base.objs.size:=Heap.lt_size e
    have q2:=I2.ok.bsz
    have q3:@LE.le Nat _ X.s₀.heap.objs.size b:=z
    omega
  ·obtain⟨f0,f1,ff,_⟩:=f2 b hb
   exact(List.mem_cons.mp (I2.stkSub b z)).elim f1 ff
 refine⟨ok,ho,by rw [hg]; exact I2.bare,Un.kept old,?_,fun x c e=>?_,?_,fun x c e=>?_,fun p hp=>?_,I2.hok.kept old,?_⟩
 ·obtain⟨m,hn⟩:=hns
  refine⟨m,hn,fun i x v e1 e2 e3=>?_⟩
  have e2':(List.replicate n (none:Option V)++σ)[i]? = some (some v):=e2
  have e1':N'[i]? = some x:=e1
  by_cases hi:i<n
  ·rw [List.getElem?_append_left (by simpa using hi),List.getElem?_replicate] at e2'
   split at e2' <;> cases e2'
  ·obtain⟨j,rfl⟩:∃ j,i=n+j:=⟨i-n,by omega⟩
   rw [List.getElem?_append_right (by simp)] at e2'
   simp only [List.length_replicate,Nat.add_sub_cancel_left] at e2'
   have hj:j<X.N.length:=by rw [← I2.len]; exact(List.getElem?_eq_some_iff.mp e2').1
   have lk:=List.all_eq_true.mp S.look j (List.mem_range.mpr hj)
   rw [e1'] at lk
   have vis:scope.names.lookup x=some .local∨scope.names.lookup x=some .cell∨scope.names.lookup x=some .free:=by
    have e3':(ax X N' scope cl C fp s2 H2).env.kindOf x=some .local∨(ax X N' scope cl C fp s2 H2).env.kindOf x=some .cell∨(ax X N' scope cl C fp s2 H2).env.kindOf x=some .free:=e3
    rcases e3' with z | z | z
    ·rw [kOf x] at z
     cases e:scope.names.lookup x with
     | none=>rw [e] at z; cases z
     | some kd=>
      rw [e] at z
      simp only [Option.map_some] at z
      split at z
      ·cases z
      ·cases z; exact .inl rfl
    ·exact .inr (.inr (kfree x (.inl z)))
    ·exact .inr (.inr (kfree x (.inr z)))
   have lk2:scope.names.lookup x=some .free∧X.N[j]? = some x:=by
    simp only [Bool.or_eq_true,Bool.and_eq_true,Bool.not_eq_true',Bool.or_eq_false_iff,beq_iff_eq,beq_eq_false_iff_ne] at lk
    rcases lk with z | z
    ·exact z
    ·rcases vis with q | q | q
     ·exact absurd q z.1.1
     ·exact absurd q z.1.2
     ·exact absurd q z.2
   obtain⟨m0,hn0,hl0⟩:=I2.loc
   have vX:Vis X.env.scope x:=by
    rcases S.free _ (PySem.mem_of_lookup lk2.1) rfl with z | z
    ·exact .inr (.inl z)
    ·exact .inr (.inr z)
   obtain⟨u,r,l⟩:=hl0 j x v lk2.2 e2' vX
   refine⟨u,r,.inr ⟨?_,?_⟩⟩
   ·rw [kOf x,lk2.1]
    simp only [Option.map_some]
    split
    ·exact .inl rfl
    ·exact .inr rfl
   ·obtain⟨c,hc⟩:=hasC x lk2.1
    refine⟨c,hc,?_⟩
    rcases l with ⟨kl,_⟩ | ⟨_,c',hc',z⟩
    ·rcases S.free _ (PySem.mem_of_lookup lk2.1) rfl with q | q <;> (rw [kl] at q; cases q)
    ·have:=c1 x c hc
     rw [hc'] at this; cases this
     obtain⟨oc,hoc,hdc⟩:=z
     exact⟨oc,old _ _ hoc,hdc⟩
 ·obtain⟨v,oc,hoc,hdc⟩:=I2.cell x c (c1 x c e)
  exact⟨v,oc,old _ _ hoc,hdc⟩
 ·exact hH C (by omega)
 ·exact I2.freeC x c (c1 x c e)
 ·have e:p=(D,{cls:=.type "list",data:=.seq us.toArray k}):=by simpa [ax] using hp
  subst e
  refine⟨hd,hH D (by omega),by show @Ne Nat D C; omega,fun z=>?_,fun v z=>by cases z⟩
  have:=frl D z
  omega
 ·show (List.replicate n none++σ).length=N'.length
  rw [List.length_append,List.length_replicate,S.len,I2.len]
def jE (n:Nat) (J:It) (g:TG) (te:TE) (σ:St) (H:Hp) (Q:VK):Prop:=
 ∃ W:Nat→Nat→List V→St→Hp→Prop,(∃ m,W 0 m [] (List.replicate n none++σ) H)∧∀ i m ys σ' H,W i m ys σ' H→
  (J.stop i H∧∀ D,H D=none→Q (.ref D) (upd H D (.lst ys)))∨
  (J.go i H∧ys.length<sizeLine∧∀ x H',J.yld i H x H'→g x σ' H' fun σ2 H2=>∃ N:VK,te σ2 H2 N∧∀ v H3,N v H3→∃ m',m'<m∧W (i+1) m' (ys++[v]) σ2 H3)
abbrev aK (α:Type):=List (Str×Addr)→Addr→List Addr→Shared→Hp→α
def vL (n:Nat) (wi:TI) (g:aK TG) (te:aK TE):TE:=fun σ H Q=>wi σ H fun J H1=>∀ cl C ex s Hc,jE n J (g cl C ex s Hc) (te cl C ex s Hc) σ H1 Q
theorem jx {it:Addr} {fp:List Addr} {tn:Nat→Heap→Prop} {J:It} {g:aK TG} {te:aK TE} {Q:VK} {E:Value→Shared→Prop}
  (hE:∀ v s,¬ X.xe v s) (hc:X.calm=true) (S:bU n N' X scope) (c1:∀ x c,cl.lookup x=some c→X.env.cells.lookup x=some c) (c2:∀ x∈scope.names,x.2=.free→∃ c,cl.lookup x.1=some c)
  (I2:Inv X pins σ H2 s2) (T:kY X.prog X.w X.K tg J fp it tn) (st2:tn 0 s2.heap) (f2:∀ b∈fp,fX X pins H2 b)
  (hg:∀ cl C ex s H,PG (ax X N' scope cl C ex s H) tg (g cl C ex s H)) (he:∀ cl C ex s H,PE (ax X N' scope cl C ex s H) elt (te cl C ex s H))
  (cok:∀ cl C ex s Hc,jE n J (g cl C ex s Hc) (te cl C ex s Hc) σ H2 Q) :
  wpAny (model X.prog X.w) X.A (newList []) (fun acc s3=>wpAny (model X.prog X.w) X.A (newFunctionEnv scope X.env.globals cl [] X.env.qual none .none (some X.env)) (fun cenv s4=>
   codeAny (model X.prog X.w) X.A (.compStart (.ListComp elt [⟨tg,iter,[],0⟩] scope pos) 0 (.ref it) acc {cenv with scope:=relabel scope X.env})
    (fun r s'=>match r with | .ok _=>dm X pins σ Q acc cenv.locals s' | .error _=>False) s4) E s3) E s2:=by
 have fl:∀ b∈fp,@LT.lt Nat _ b s2.heap.objs.size:=fun b hb=>by
  obtain⟨o,e,_⟩:=T.obj _ _ st2 b hb
  exact Heap.lt_size e
 have frl:∀ b∈frs X.stack,@LT.lt Nat _ b s2.heap.objs.size:=fun b hb=>by
  obtain⟨_,o,ho,_⟩:=I2.stack.mem hb
  exact Heap.lt_size ho
 have celll:∀ x c,X.env.cells.lookup x=some c→@LT.lt Nat _ c s2.heap.objs.size:=fun x c e=>by
  obtain⟨v,q⟩:=I2.cell x c e
  exact q.lt
 refine wpAny_newObj_type (wpAny_newFunctionEnv S.cell (by intro y hy; simp at hy) (fun h1 hns1 hsb1=>?_) S.kind)
 dsimp only at hns1 hsb1 ⊢
 generalize hH2:s2.heap.push {cls:=.type "list",dict:=none,data:=.seq ([]:List Value).toArray}=G at hns1 hsb1 ⊢
 have hC:@Eq Nat G.objs.size (s2.heap.objs.size+1):=by rw [← hH2,Heap.size_push]
 have hDC:s2.heap.objs.size≠G.objs.size:=by show @Ne Nat _ _; omega
 have below:∀ b,@LT.lt Nat _ b s2.heap.objs.size→b≠G.objs.size∧b≠s2.heap.objs.size:=fun b hb=>⟨by show @Ne Nat _ _; omega,Nat.ne_of_lt hb⟩
 have old:∀ b o,s2.heap.get? b=some o→h1.get? b=some o:=fun b o e=>hsb1.extBut b o (below b (Heap.lt_size e)).1 (Heap.get?_push_of_some _ (hH2▸Heap.get?_push_of_some _ e))
 have hacc:h1.get? s2.heap.objs.size=some {cls:=.type "list",data:=.seq ([]:List Value).toArray 0}:=hsb1.extBut _ _ hDC (Heap.get?_push_of_some _ (hH2▸Heap.get?_push_size _ rfl))
 have hst1:tn 0 h1:=T.keep _ _ _ st2 fun b hb o e=>old b o e
 let X':=ax X N' scope cl G.objs.size fp s2 H2
 obtain⟨W,⟨m0,w0⟩,turn⟩:=cok cl G.objs.size fp s2 H2
 have hXe:X'.xe=X.xe:=rfl
 have stat:∀ {H':Hp} {ps:List (Addr×Obj)},(∀ b∈fp,H' b=none)→(∀ p∈ps,p.1=s2.heap.objs.size)→∀ b∈fp,fX X' ps H' b:=fun {H' ps} hn hp b hb=>by
  obtain⟨f0,f1,ff,f3,f4,f5⟩:=f2 b hb
  refine⟨hn b hb,(below b (fl b hb)).1,fun z=>?_,.inl hb,fun x c e z=>?_,fun p hp' z=>?_⟩
  ·exact(List.mem_cons.mp (I2.stkSub b z)).elim f1 ff
  ·exact f4 x c (c1 x c e) z
  ·have e:p.1=s2.heap.objs.size:=hp p (by simpa [X',ax] using hp')
   exact(below b (fl b hb)).2 (z.symm.trans e)
 have loop:∀ s3:Shared,s3={s2 with heap:=h1,toks:=s2.toks+([]:List (Str×Value)).length}→
   codeAny (model X.prog X.w) X.A (.compLoop (.ListComp elt [⟨tg,iter,[],0⟩] scope pos) 0 (.ref it) (.ref s2.heap.objs.size) (compEnvC scope cl G.objs.size X.env))
    (fun r s'=>match r with | .ok _=>dm X pins σ Q (.ref s2.heap.objs.size) G.objs.size s' | .error _=>False) s3:=by
  rintro s3 rfl
  have I3:=ju (us:=[]) (k:=0) (s':={s2 with heap:=h1,toks:=s2.toks+([]:List (Str×Value)).length}) S c1 c2 I2 f2 fl rfl hC rfl rfl old ⟨_,hns1⟩ hacc
  refine fG (fun m s'=>∃ i ys us k σ' H',Inv X' [(s2.heap.objs.size,{cls:=.type "list",data:=.seq (us:List Value).toArray k})] σ' H' s'∧aI ys us∧tn i s'.heap∧(∀ b∈fp,H' b=none)∧ys.length≤sizeLine∧W i m ys σ' H') ?_ m0
   ⟨0,[],[],0,_,H2,I3,.nil,hst1,fun b hb=>(f2 b hb).1,Nat.zero_le _,w0⟩
  rintro m s' ⟨i,ys,us,k,σ',H',I',rv,st',fr',hlen,w'⟩
  rcases turn i m ys σ' H' w' with ⟨stop,q⟩ | ⟨go,hlt,step⟩
  ·refine thn (T.done X' rfl rfl rfl hc i _ s' σ' H' _ I' (stat fr' (by simp)) st' stop) fun r s4 ⟨hr,I4⟩=>?_
   subst hr
   show dm X pins σ Q (.ref s2.heap.objs.size) G.objs.size s4
   obtain⟨m1,hn1,_⟩:=I4.loc
   obtain⟨pD,nD,_,_,_⟩:=I4.pin (s2.heap.objs.size,{cls:=.type "list",data:=.seq us.toArray k}) (List.mem_append_right _ (by simp))
   have nD:H' s2.heap.objs.size=none:=nD
   have pD:s4.heap.get? s2.heap.objs.size=some {cls:=.type "list",data:=.seq us.toArray k}:=pD
   have hok:HOk X.prog X.w (upd H' s2.heap.objs.size (.lst ys)) s4.heap:=fun b u e=>by
    by_cases hb:b=s2.heap.objs.size
    ·subst hb
     rw [ac] at e; cases e
     exact⟨hlen,us,k,rv,pD⟩
    ·rw [ag hb] at e
     exact(I4.hok b u e).stay (fun _ _ _ q=>q) (fun c q=>by rw [ag (al q nD)]; exact q) fun c xs q=>by rw [ag (al q nD)]; exact q
   have un:Un (frs X.stack) fp H2 (upd H' s2.heap.objs.size (.lst ys)) s2.heap s4.heap:=by
    have u0:=I4.base
    refine⟨u0.keep,u0.slot,fun b o e n hx=>?_,u0.there,fun b xs e=>?_,fun b o xs e=>?_,fun b ps e=>?_⟩
    ·rw [ag (below b (Heap.lt_size e)).2]; exact u0.free b o e n hx
    ·have q:=u0.tups b xs e
     rw [ag (al q nD)]; exact q
    ·have q:=u0.frzs b o xs e
     rw [ag (al q nD)]; exact q
    ·obtain⟨more,q⟩:=u0.tbls b ps e
     exact⟨more,by rw [ag (al q nD)]; exact q⟩
   have IX:Inv X pins σ (upd H' s2.heap.objs.size (.lst ys)) s4:=I2.call' (ch:=fp) I4.os un hok I4.bare fun b hb=>by
    obtain⟨f0,f1,ff,f3,f4,f5⟩:=f2 b hb
    exact⟨f3,f1,f4,f5⟩
   have hG0:H' G.objs.size=none:=I4.free
   refine⟨s2.heap.objs.size,_,m1,rfl,IX,hn1,⟨by rw [ag (Ne.symm hDC)]; exact hG0,fun z=>?_,fun z=>?_,.inr ?_,fun x c e z=>?_,fun p hp z=>?_⟩,q _ nD⟩
   ·have q1:@LT.lt Nat _ X.env.locals s2.heap.objs.size:=I2.lt
    have q2:@Eq Nat G.objs.size X.env.locals:=z
    omega
   ·have z':G.objs.size∈frs X.outer:=z
    obtain⟨_,o,ho,_⟩:=I2.funs.mem z'
    have q1:@LT.lt Nat _ G.objs.size s2.heap.objs.size:=Heap.lt_size ho
    omega
   ·have q1:=I2.sz
    show @LE.le Nat _ X.s₀.heap.objs.size G.objs.size
    omega
   ·have q1:=celll x c e
    have q2:@Eq Nat c G.objs.size:=z
    omega
   ·have q1:@LT.lt Nat _ p.1 s2.heap.objs.size:=Heap.lt_size (I2.pin p hp).1
    have q2:@Eq Nat p.1 G.objs.size:=z
    omega
  ·refine thn (T.item X' rfl rfl rfl hc i _ s' σ' H' _ I' (stat fr' (by simp)) st' go) fun r s4 ⟨u,hr,h4⟩=>?_
   subst hr
   show wpAny _ _ (letOwnedTupleGo tg (.ref it) u) _ _ s4
   refine thn h4 fun _ s5 ⟨x,H5,I5,r5,y5,st5,fr5⟩=>?_
   have I5':=I5.pinned (stat fr5 (by simp)) (T.obj _ _ st5)
   have w1:=hg cl G.objs.size fp s2 H2 _ s5 σ' H5 x u _ I5' r5 (step x H5 y5)
   refine wpAny_mono w1 (fun _ s6 ⟨σ6,H6,I6,q6⟩=>?_) fun v s hv=>absurd hv (hE v s)
   obtain⟨NN,q6,hNN⟩:=q6
   have w2:=he cl G.objs.size fp s2 H2 _ s6 σ6 H6 _ I6 q6
   refine wpAny_mono w2 (fun y s7 ⟨v,H7,I7,r7,q7⟩=>?_) fun v s hv=>absurd hv (hE v s)
   obtain⟨m',hm',w7⟩:=hNN v H7 q7
   have pinD:=I7.pin (s2.heap.objs.size,{cls:=.type "list",data:=.seq us.toArray k}) (List.mem_append_right _ (List.mem_append_left _ (by simp)))
   obtain⟨pD,nD,lD,fD,_⟩:=pinD
   refine append_at (hsz:=by rw [List.size_toArray,← rv.length]; exact hlen) pD fun h8 hs8 hD8=>?_
   have nD:H7 s2.heap.objs.size=none:=nD
   have I8:Inv X' (bI fp s5.heap) σ6 H7 {s7 with heap:=h8}:=by
    refine(I7.pins_of (pins':=bI fp s5.heap) fun p hp=>I7.pin p (List.mem_append_right _ (List.mem_append_right _ hp))).turned (t':=s7.toks) (it:=s2.heap.objs.size) (fun b o hb e=>(hs8.2 b hb).trans e) nD lD (.inr (Nat.le_refl _)) (fun x c e z=>?_) fun p hp z=>?_
    ·have q1:=celll x c (c1 x c e)
     have q2:@Eq Nat c s2.heap.objs.size:=z
     omega
    ·have hp':p∈bI fp s5.heap:=by simpa [X',ax] using hp
     have q1:=fl p.1 (eI hp').1
     have q2:@Eq Nat p.1 s2.heap.objs.size:=z
     omega
   have I9:Inv X' [(s2.heap.objs.size,{cls:=.type "list",data:=.seq (us++[y]).toArray (k+1)})] σ6 H7 {s7 with heap:=h8}:=I8.pins_of fun p hp=>by
    have e:p=(s2.heap.objs.size,{cls:=.type "list",data:=.seq (us++[y]).toArray (k+1)}):=by simpa using hp
    subst e
    refine⟨by rw [hD8,List.push_toArray],nD,lD,fD,fun v z=>by cases z⟩
   refine⟨m',hm',i+1,ys++[v],us++[y],k+1,σ6,H7,I9,rv.append (.cons r7 .nil),T.keep _ _ _ st5 fun b hb o e=>?_,fun b hb=>?_,by rw [List.length_append,List.length_singleton]; omega,w7⟩
   ·exact(I8.pin (b,o) (List.mem_append_right _ (bD hb e))).1
   ·obtain⟨o,e,d⟩:=T.obj _ _ st5 b hb
    exact(I8.pin (b,o) (List.mem_append_right _ (bD hb e))).2.1
 exact codeAny_compStart_list (loop _ rfl) (T.self _ 0 _ _ _ hst1 (loop _ rfl))
theorem dF {wi:TI} {g:aK TG} {te:aK TE} (hE:∀ v s,¬ X.xe v s) (hc:X.calm=true) (S:bU n N' X scope) (hi:PI X tg iter wi)
  (hg:∀ cl C ex s H,PG (ax X N' scope cl C ex s H) tg (g cl C ex s H)) (he:∀ cl C ex s H,PE (ax X N' scope cl C ex s H) elt (te cl C ex s H))
  (hs:∀ x,foldedSetIterable iter X.env x=pure x:=by intro _; rfl):PE X (.ListComp elt [⟨tg,iter,[],0⟩] scope pos) (vL n wi g te):=by
 intro pins s σ H Q I h
 rw [eval_ListComp]
 obtain⟨cl,hcl,c1,c2⟩:=d5 (scope:=scope) (env:=X.env) fun x hx hf=>I.ok.has x.1 (S.free x hx hf)
 refine wpAny_comprehension_free (use:=none) rfl hs hcl S.kind S.names (thn (hi pins s σ H _ I h) fun v s1 h1=>thn h1 fun itv s2 h2=>?_)
 obtain⟨it,fp,tn,J,H2,e,I2,T,st2,f2,cok⟩:=h2
 subst e
 refine wpAny_mono (jx (pos:=pos) (iter:=iter) (Q:=Q) (E:=X.xe) hE hc S c1 c2 I2 T st2 f2 hg he cok) (fun acc s3 h3=>wpAny_mono h3 (fun cenv s4 h4=>codeAny_mono h4 fun r s' hr=>?_) fun _ _ z=>z) fun _ _ z=>z
 cases r with
 | error e=>exact False.elim hr
 | ok f=>
  obtain⟨D,H',m,rfl,I',hn,⟨f0,f1,ff,f3,f4,f5⟩,q⟩:=hr
  refine⟨m,hn,fun h' hs'=>⟨.ref D,H',?_,rfl,q⟩⟩
  exact I'.turned (t':=s'.toks) (fun b o hb e=>(hs'.2 b hb).trans e) f0 f1 f3 f4 f5
theorem i5 {wi:TI} {g:aK TG} {te:aK TE} {i:Nat} {x:Str} {pos' spos:Pos} (hN:X.N.Nodup) (hi0:X.N[i]? = some x) (hx:Loc X.env.scope x)
  (hsw:swapsWith (.ListComp elt [⟨tg,iter,[],0⟩] scope pos) (some (.Name x pos')) spos.line X.env=pure true)
  (hE:∀ v s,¬ X.xe v s) (hc:X.calm=true) (S:bU n N' X scope) (hi:PI X tg iter wi)
  (hg:∀ cl C ex s H,PG (ax X N' scope cl C ex s H) tg (g cl C ex s H)) (he:∀ cl C ex s H,PE (ax X N' scope cl C ex s H) elt (te cl C ex s H))
  (hs:∀ x,foldedSetIterable iter X.env x=pure x:=by intro _; rfl) (hf:X.fn x=true∨X.env.scope.names.lookup x=some .local:=by first | exact .inl rfl | exact .inr rfl | assumption) :
  PS X (.Assign [.Name x pos'] (.ListComp elt [⟨tg,iter,[],0⟩] scope pos) spos) (pW (vL n wi g te) (dQ i)):=by
 intro pins s σ H D I h
 rw [exec_Assign_Name_used _ _ _ _ hsw]
 refine wpAny_bind (wpAny_standAt (wpAny_bind ?_))
 obtain⟨cl,hcl,c1,c2⟩:=d5 (scope:=scope) (env:=X.env) fun x hx hf=>I.ok.has x.1 (S.free x hx hf)
 show wpAny _ _ (do let _ ← comprehension (.ListComp elt [⟨tg,iter,[],0⟩] scope pos) scope X.env _ (newList []) false (eval iter X.env) (some (assign (.Name x pos') X.env))) _ _ s
 refine wpAny_bind (wpAny_mono (wpAny_comprehension_free (use:=some (assign (.Name x pos') X.env)) (Q:=fun _ s'=>SP X pins D .next s') rfl hs hcl S.kind S.names
  (thn (hi pins s σ H _ I h) fun v s1 h1=>thn h1 fun itv s2 h2=>?_)) (fun _ s' hq=>wpAny_pure (wpAny_pure hq)) fun _ _ e=>e)
 obtain⟨it,fp,tn,J,H2,e,I2,T,st2,f2,cok⟩:=h2
 subst e
 refine wpAny_mono (jx (pos:=pos) (iter:=iter) (E:=X.xe) (Q:=fun x H1=>dQ i x σ H1 D.nx) hE hc S c1 c2 I2 T st2 f2 hg he cok) (fun acc s3 h3=>wpAny_mono h3 (fun cenv s4 h4=>codeAny_mono h4 fun r s' hr=>?_) fun _ _ z=>z) fun _ _ z=>z
 cases r with
 | error e=>exact False.elim hr
 | ok f=>
  obtain⟨Dl,H',m,rfl,I',hn,⟨f0,f1,ff,f3,f4,f5⟩,q⟩:=hr
  show wpAny _ _ (assign (.Name x pos') X.env (.ref Dl)) _ _ s'
  refine wpAny_assign_Name (fM I' hN hi0 hx (v:=.ref Dl) (u:=.ref Dl) rfl (fun s'' I'' hb=>?_) hf)
  obtain⟨a,sb,ha⟩:=hb
  have hCa:cenv.locals≠a:=by
   rcases ha with rfl | ha
   ·exact f1
   ·exact fun z=>f4 x a ha z.symm
  refine⟨m,hn.sameBut sb hCa,fun h' hs'=>⟨_,H',?_,q⟩⟩
  exact I''.turned (t':=s''.toks) (fun b o hb e=>(hs'.2 b hb).trans e) f0 f1 f3 f4 f5
end
section
variable {X:Cx} {tg:Expr}
def Its (z:Str):It:=⟨fun i _=>i<z.cps.size,fun i H x H'=>H'=H∧∃ c,z.cps[i]? = some c∧x=.str ⟨#[c]⟩,fun i _=>z.cps.size≤i⟩
theorem qX {P:Program} {w:World} {K:PySem.W.Frag} {tg:Expr} {T:String} {t:Tok} (it:Addr) (z:Str)
  (hT:T="str_ascii_iterator"∨T="str_iterator") (W:∀ A:Around,A.handled=none→Walks P w A it [it] [it] z.cps.size (SignAt z) (fun i h=>h.IsStrIter it T z t i)) :
  kY P w K tg (Its z) [it] it (fun i h=>h.IsStrIter it T z t i) where
 mem:=by simp
 obj:=fun i h st b hb=>by
  have e:b=it:=by simpa using hb
  subst e
  obtain⟨o,e,c,d⟩:=st
  exact⟨o,e,fun v z=>by rw [d] at z; cases z⟩
 keep:=fun i h h' st k=>by
  obtain⟨o,e,r⟩:=st
  exact⟨o,k it (by simp) o e,r⟩
 item:=by
  intro X hP hw hK hc i pins s σ H E I hf st hg
  subst hP hw hK
  obtain⟨f0,f1,f2,f3,f4,f5⟩:=hf it (by simp)
  refine(W _ (I.ok.hd hc)).item i s _ _ hg st fun v h' tk hv st' kk=>?_
  obtain⟨c,u,hcu,rfl⟩:=hv
  have I1:Inv X pins σ H {s with heap:=h',toks:=tk}:=I.turned (fun b o hb e=>kk b o (by simpa using hb) e) f0 f1 f3 f4 f5
  obtain⟨o,e,cc,d⟩:=id st'
  refine⟨_,rfl,mx (s:={s with heap:=h',toks:=tk}) (n:=T) e cc d ?_ ⟨.str ⟨#[c]⟩,H,I1,⟨u,rfl⟩,⟨rfl,c,hcu,rfl⟩,st',fun b hb=>(hf b hb).1⟩⟩
  rcases hT with rfl | rfl <;> decide
 done:=by
  intro X hP hw hK hc i pins s σ H E I hf st hg
  subst hP hw hK
  obtain⟨f0,f1,f2,f3,f4,f5⟩:=hf it (by simp)
  have hg:z.cps.size≤i:=hg
  rcases hT with rfl | rfl
  ·exact wpAny_pyNext_ascii_end (I.ok.hd hc) st (by simp; omega) fun h' eb=>⟨rfl,I.turned (t':=s.toks) (fun b o hb e=>eb b o hb e) f0 f1 f3 f4 f5⟩
  ·exact wpAny_pyNext_wide_end (I.ok.hd hc) st (by simp; omega) fun h' eb=>⟨rfl,I.turned (t':=s.toks) (fun b o hb e=>eb b o hb e) f0 f1 f3 f4 f5⟩
 self:=fun A i s Q E st h=>by
  rcases hT with rfl | rfl
  ·exact wpAny_pyIter_striter_ascii st h
  ·exact wpAny_pyIter_striter_wide st h
def y6 (tl:TE):TI:=fun σ H R=>tl σ H fun x H1=>∃ z,x=.str z∧R (Its z) H1
theorem wG {l:Expr} {tl:TE} (hl:PE X l tl):PI X tg l (y6 tl):=by
 intro pins s σ H R I h
 refine thn (hl pins s σ H _ I h) fun v s1 ⟨x,H1,I1,r1,q1⟩=>?_
 obtain⟨z,e,q⟩:=q1
 subst e
 obtain⟨t,rfl⟩:=r1
 have fin:∀ (T:String) (o:Obj),(T="str_ascii_iterator"∨T="str_iterator")→(∀ A:Around,A.handled=none→Walks X.prog X.w A s1.heap.objs.size [s1.heap.objs.size] [s1.heap.objs.size] z.cps.size (SignAt z) (fun i h=>h.IsStrIter s1.heap.objs.size T z t i))→
   (s1.heap.push o).IsStrIter s1.heap.objs.size T z t 0→PIE X pins σ tg R (.ref s1.heap.objs.size) {s1 with heap:=s1.heap.push o}:=fun T o hT W st=>
  ⟨s1.heap.objs.size,[s1.heap.objs.size],_,_,H1,rfl,I1.kept (t':=s1.toks) fun b o e=>Heap.get?_push_of_some _ e,qX _ z hT W,st,fun b hb=>by
   have e:b=s1.heap.objs.size:=by simpa using hb
   subst e
   exact I1.fpOk (Nat.le_refl _) (I1.hok.fresh (Nat.le_refl _)),q⟩
 cases ha:z.cps.all (· < 128)
 ·exact wpAny_pyIter_wide ha (fin "str_iterator" _ (.inr rfl) (fun A hA=>Walks.strWide hA _ z t) ⟨_,Heap.get?_push_size _ rfl,rfl,rfl⟩)
 ·exact wpAny_pyIter_ascii ha (fin "str_ascii_iterator" _ (.inl rfl) (fun A hA=>Walks.strAscii hA _ z t) ⟨_,Heap.get?_push_size _ rfl,rfl,rfl⟩)
section forms
variable {J:It} {K:PySem.W.Frag} {a:Addr} {xs:List V} {te:TE} {σ:St} {H:Hp} {Q:VK}
theorem df (n:Nat) (Pv:Nat→List V→Hp→Prop) (Vx:Nat→V→Prop) (h0:Pv 0 [] H) (hz:n≤sizeLine) (hgo:∀ i ys H,i<n→ys.length=i→Pv i ys H→J.go i H∧∀ x H',J.yld i H x H'→H'=H∧Vx i x)
  (hstop:∀ ys H,ys.length=n→Pv n ys H→J.stop n H)
  (hs:∀ i x ys H,i<n→Vx i x→ys.length=i→Pv i ys H→te (some x::σ) H fun v H3=>Pv (i+1) (ys++[v]) H3)
  (hd:∀ ys H,ys.length=n→Pv n ys H→∀ D,H D=none→Q (.ref D) (upd H D (.lst ys))):jE 1 J (dQ 0) te σ H Q:=by
 refine⟨fun i m ys σ' H=>m=n-i∧i≤n∧ys.length=i∧(∃ o,σ'=o::σ)∧Pv i ys H,⟨n,by simp,Nat.zero_le _,rfl,⟨none,rfl⟩,h0⟩,?_⟩
 rintro i m ys σ' H ⟨rfl,hi,hy,⟨o,rfl⟩,p⟩
 by_cases hlt:i<n
 ·obtain⟨g1,g2⟩:=hgo i ys H hlt hy p
  refine .inr ⟨g1,by omega,fun x H' y=>?_⟩
  obtain⟨e,hx⟩:=g2 x H' y
  subst e
  exact⟨fun v H3=>Pv (i+1) (ys++[v]) H3,hs i x ys _ hlt hx hy p,fun v H3 h3=>⟨n - (i+1),by omega,rfl,hlt,by simp [hy],⟨_,rfl⟩,h3⟩⟩
 ·obtain rfl:i=n:=by omega
  exact .inl ⟨hstop ys H hy p,hd ys H hy p⟩
theorem tW (n:Nat) (Pv:Nat→List V→Hp→Prop) (Vx:Nat→V→V→Prop) (h0:Pv 0 [] H) (hz:n≤sizeLine) (hgo:∀ i ys H,i<n→ys.length=i→Pv i ys H→J.go i H∧∀ x H',J.yld i H x H'→H'=H∧∃ p u v,x=.ref p∧SqT K H p [u,v]∧Vx i u v)
  (hstop:∀ ys H,ys.length=n→Pv n ys H→J.stop n H)
  (hs:∀ i u v ys H,i<n→Vx i u v→ys.length=i→Pv i ys H→te (some u::some v::σ) H fun y H3=>Pv (i+1) (ys++[y]) H3)
  (hd:∀ ys H,ys.length=n→Pv n ys H→∀ D,H D=none→Q (.ref D) (upd H D (.lst ys))):jE 2 J (yw K 2 (tD (dQ 0) (tD (dQ 1) yx))) te σ H Q:=by
 refine⟨fun i m ys σ' H=>m=n-i∧i≤n∧ys.length=i∧(∃ o1 o2,σ'=o1::o2::σ)∧Pv i ys H,⟨n,by simp,Nat.zero_le _,rfl,⟨none,none,rfl⟩,h0⟩,?_⟩
 rintro i m ys σ' H ⟨rfl,hi,hy,⟨o1,o2,rfl⟩,p⟩
 by_cases hlt:i<n
 ·obtain⟨g1,g2⟩:=hgo i ys H hlt hy p
  refine .inr ⟨g1,by omega,fun x H' y=>?_⟩
  obtain⟨e,pp,u,v,rfl,hq,hx⟩:=g2 x H' y
  subst e
  refine⟨pp,[u,v],rfl,hq,rfl,u,[v],rfl,v,[],rfl,rfl,?_⟩
  exact⟨fun v H3=>Pv (i+1) (ys++[v]) H3,hs i u v ys _ hlt hx hy p,fun v H3 h3=>⟨n - (i+1),by omega,rfl,hlt,by simp [hy],⟨_,_,rfl⟩,h3⟩⟩
 ·obtain rfl:i=n:=by omega
  exact .inl ⟨hstop ys H hy p,hd ys H hy p⟩
theorem dU {i:Nat} (hq:SqL K H a xs) (hlt:i<xs.length):(Itl K a).go i H∧∀ x H',(Itl K a).yld i H x H'→H'=H∧xs[i]? = some x:=
 ⟨⟨xs,xs[i],hq,by simp [hlt]⟩,fun x H' ⟨e,y⟩=>⟨e,y xs hq⟩⟩
theorem cQ (hq:SqL K H a xs):(Itl K a).stop xs.length H:=⟨xs,hq,Nat.le_refl _⟩
theorem kR {i:Nat} (hq:SqT K H a xs) (hlt:i<xs.length):(Itt K a).go i H∧∀ x H',(Itt K a).yld i H x H'→H'=H∧xs[i]? = some x:=
 ⟨⟨xs,xs[i],hq,by simp [hlt]⟩,fun x H' ⟨e,y⟩=>⟨e,y xs hq⟩⟩
theorem iT (hq:SqT K H a xs):(Itt K a).stop xs.length H:=⟨xs,hq,Nat.le_refl _⟩
theorem ow {lo:Int} {n i:Nat} (hlt:i<n):(Itr lo n).go i H∧∀ x H',(Itr lo n).yld i H x H'→H'=H∧x=.int (lo+i):=⟨hlt,fun _ _ y=>y⟩
theorem iU {lo:Int} {n:Nat}:(Itr lo n).stop n H:=Nat.le_refl n
theorem wW {z:Str} {i:Nat} (hlt:i<z.cps.size):(Its z).go i H∧∀ x H',(Its z).yld i H x H'→H'=H∧∃ c,z.cps[i]? = some c∧x=.str ⟨#[c]⟩:=⟨hlt,fun _ _ y=>y⟩
theorem rj {z:Str}:(Its z).stop z.cps.size H:=Nat.le_refl z.cps.size
end forms
theorem qN (hc:X.calm=true):cX X (.builtin "all") (fun xs H Q=>∃ (p:Addr) (bs:List Bool),xs=[.ref p]∧SqL X.K H p (bs.map V.bl)∧Q (.bl (bs.all id)) H):=by
 intro pins s σ H xs us Q I r h
 obtain⟨p,bs,rfl,hq,q⟩:=h
 obtain⟨u,rfl,rx⟩:=eB r
 cases rx
 obtain⟨its,r',pl,hz⟩:=I.list hq
 have hlen:=r'.length
 rw [List.length_map] at hlen
 have hit:∀ (i:Nat) (v:Value),its[i]? = some v→∃ b,bs[i]? = some b∧v=Value.bool b:=fun i v e=>by
  have hi:i<its.length:=(List.getElem?_eq_some_iff.mp e).1
  have hb:i<bs.length:=by omega
  obtain⟨u,hu,ru⟩:=r'.get (i:=i) (x:=V.bl bs[i]) (by simp [hb])
  rw [e] at hu; cases hu
  exact⟨bs[i],by simp [hb],ru⟩
 refine call_all_walk (wpAny_pyIter_list pl.isList ?_)
 have hp:p<s.heap.objs.size:=by obtain⟨o,n,e,_⟩:=pl; exact Heap.lt_size e
 refine⟨s.heap.objs.size,[s.heap.objs.size,p],[s.heap.objs.size],its.toArray.size,_,_,fun i=>bs.getD i false,rfl,Walks.list (by simpa using I.ok.hd hc) _ p (Nat.ne_of_lt hp) its.toArray,⟨⟨_,Heap.get?_push_size _ rfl,rfl,rfl⟩,pl.isList.push _⟩,fun i v s Q E hP hQ=>?_,fun h' tk kk=>?_⟩
 ·obtain⟨b,hb,rfl⟩:=hit i v (by simpa using hP)
  have e:bs.getD i false=b:=by simp [List.getD,hb]
  have hQ':Q (bs.getD i false) s:=hQ
  rw [e] at hQ'
  exact wpAny_truthy_bool hQ'
 ·have e:((List.range its.toArray.size).all fun i=>bs.getD i false)=bs.all id:=by
   rw [List.size_toArray,← hlen]
   rw [Bool.eq_iff_iff,List.all_eq_true,List.all_eq_true]
   constructor
   ·intro h b hb
    obtain⟨i,hi,rfl⟩:=List.mem_iff_getElem.mp hb
    have:=h i (List.mem_range.mpr hi)
    simpa [List.getD,hi] using this
   ·intro h i hi
    have hi':=List.mem_range.mp hi
    have:=h bs[i] (List.getElem_mem hi')
    simpa [List.getD,hi'] using this
  refine⟨.bl (bs.all id),H,?_,by rw [e]; rfl,q⟩
  exact I.kept fun b o eb=>kk b o (fun z=>Nat.ne_of_lt (Heap.lt_size eb) (by simpa using z)) (Heap.get?_push_of_some _ eb)
end
end L2
set_option maxHeartbeats 8000000
namespace L2
open PySem PySem.Spec PyProof.Rows
def dq (σ:List Str) (v:Str):List Str:=if σ.any (· == v) then σ else σ++[v]
def dM (val:Nat→Str) (i:Nat):List Str:=((List.range i).map val).foldl dq []
theorem hU (val:Nat→Str) (i:Nat):dM val (i+1)=dq (dM val i) (val i):=by
 unfold dM; rw [List.range_succ,List.map_append,List.foldl_append]; rfl
theorem fu (val:Nat→Str):∀ i,(dM val i).length≤i
 | 0=>Nat.le_refl _
 | i+1=>by
  rw [hU]; unfold dq
  have ih:=fu val i
  split
  ·omega
  ·rw [List.length_append,List.length_singleton]; omega
theorem pX (σ:List Str) (v k:Str):(dq σ v).any (· == k)=(σ.any (· == k)||decide (k=v)):=by
 unfold dq
 by_cases h:σ.any (· == v)=true
 ·rw [if_pos h]
  by_cases e:k=v
  ·subst e; rw [h]; simp
  ·simp [e]
 ·rw [if_neg h,List.any_append]
  by_cases e:k=v
  ·subst e; simp
  ·have hb:(v==k)=false:=by
    rw [beq_eq_false_iff_ne]; exact fun h'=>e h'.symm
   simp [hb,e]
theorem ki (σ:List Str) (v:Str):(dq σ v).length=if σ.any (· == v) then σ.length else σ.length+1:=by
 unfold dq; split <;> simp
section
variable {prog:Program} {w:World} {A:Around} {R:Result→Shared→Prop} {I:Addr} {fp wr:List Addr} {G:Array GenState→Array GenState→Prop} {n:Nat} {P:Nat→Value→Prop} {St:Nat→Shared→Prop}
theorem jT (W:WalksS prog w A.in1 I fp wr G n P St) (S:Addr) (hSf:S∉fp)
  (val:Nat→Str) (hval:∀ i v,P i v→∃ t,v=.str (val i) t) (hb:n+1<scanBound) :
  ∀ (k i:Nat) (s:Shared),n-i=k→i≤n→St i s→
   s.heap.SetOf (PySem.strKind prog w) S (fun k'=>(dM val i).any (· == k')) (dM val i).length→
   (∀ s',Moved (S::wr) G s s'→s'.heap.SetOf (PySem.strKind prog w) S (fun k'=>(dM val n).any (· == k')) (dM val n).length→R (.ok (.ret .none)) s')→
   codeAny (model prog w) A (.builtin "set.update.loop" ⟨[.ref S,.ref I],[]⟩) R s:=by
 have hSw:S∉wr:=fun h=>hSf (W.sub _ h)
 have hsub:∀ b∈wr,b∈S::wr:=fun b hb=>List.mem_cons_of_mem _ hb
 intro k
 induction k with
 | zero=>
  intro i s hk hi hst hS hR
  have hin:i=n:=by omega
  subst hin
  refine codeAny_builtin PyProof.Rows.F.entry_set_update_loop ?_
  rw [Around.under_plainId PyProof.Rows.F.plain_set_update_loop _]
  show wpAny _ A.in1 (pyNext (.ref I)>>=_) _ _ s
  refine wpAny_bind (W.done s _ _ hst fun s' hm=>?_)
  show wpAny _ A.in1 (ret Value.none) _ _ s'
  exact wpAny_pure (hR s' (hm.mono hsub) (by
   obtain⟨o,es,ep,t,ho,rest⟩:=hS
   exact⟨o,es,ep,t,hm.heap S _ hSw ho,rest⟩))
 | succ k ih=>
  intro i s hk hi hst hS hR
  have hlt:i<n:=by omega
  refine codeAny_builtin PyProof.Rows.F.entry_set_update_loop ?_
  rw [Around.under_plainId PyProof.Rows.F.plain_set_update_loop _]
  show wpAny _ A.in1 (pyNext (.ref I)>>=_) _ _ s
  refine wpAny_bind (W.item i s _ _ hlt hst fun v s' hP hst' hm=>?_)
  obtain⟨t,rfl⟩:=hval i v hP
  have hS':s'.heap.SetOf (PySem.strKind prog w) S (fun k'=>(dM val i).any (· == k')) (dM val i).length:=by
   obtain⟨o,es,ep,tb,ho,rest⟩:=hS
   exact⟨o,es,ep,tb,hm.heap S _ hSw ho,rest⟩
  have his:(PySem.strKind prog w).is (val i) (.str (val i) t)=true:=by show Value.isStrOf (val i) (.str (val i) t)=true; simp [Value.isStrOf]
  show wpAny _ A.in1 (holding [Value.str (val i) t] (setAdd S (.str (val i) t))>>=_) _ _ s'
  refine wpAny_bind (wpAny_holding ?_)
  unfold setAdd
  refine wpAny_holding ?_
  refine wpAny_bind ((PySem.strKind prog w).pyHash (k:=val i) his ?_)
  have hroom:(dM val i).length+1<scanBound:=by have:=fu val i; omega
  refine wpAny_setAddHashed_of (knd:=PySem.strKind prog w) (s:={s' with toks:=s'.toks+1}) his rfl hS' hroom fun h' hsb hS2=>?_
  have hSi:h'.SetOf (PySem.strKind prog w) S (fun k'=>(dM val (i+1)).any (· == k')) (dM val (i+1)).length:=
   SetOf_congr hS2 (fun k'=>by rw [hU,pX]) (by rw [hU,ki])
  refine wpAny_pure ⟨plainId_quiet PyProof.Rows.F.plain_set_update_loop _,ih (i+1) _ (by omega) hlt (W.frame _ s' _ _ hst' (Nat.le_succ _) fun b hb o e=>?_) hSi fun s'' hm'' hS''=>?_⟩
  ·rw [hsb.2 b (fun h:b=S=>hSf (by rw [← h]; exact hb))]; exact e
  ·refine hR s'' (Moved.trans W.gtrans ((hm.mono hsub).then_heap (Nat.le_succ _) fun b o hb e=>?_) hm'') hS''
   rw [hsb.2 b (fun h:b=S=>hb (by rw [h]; exact List.mem_cons_self))]; exact e
end
open Sem (wp)
theorem jG:isSubtype (.type "list") (.type "set")=pure false:=by rw [isSubtype_type]; kernel_rfl
theorem fU:isSubtype (.type "list") (.type "frozenset")=pure false:=by rw [isSubtype_type]; kernel_rfl
theorem jz {prog:Program} {w:World} {A:Around} {E:Value→Shared→Prop} {s:Shared} {l:Addr} {items:Array Value} {val:Nat→Str} {Q:Value→Shared→Prop}
  (hh:A.handled=none) (hl:s.heap.IsList l items) (hi:∀ (i:Nat) (v:Value),items[i]? = some v→∃ t,v=.str (val i) t) (hb:items.size+1<scanBound)
  (h:∀ (h':Heap) (tk:Nat),h'.SetOf (PySem.strKind prog w) s.heap.objs.size (fun k'=>(dM val items.size).any (· == k')) (dM val items.size).length→
   (∀ b o,b<s.heap.objs.size→s.heap.get? b=some o→h'.get? b=some o)→Q (.ref s.heap.objs.size) {s with heap:=h',toks:=tk}) :
  wpAny (model prog w) A (call (.type "set") [.ref l]) Q E s:=by
 obtain⟨c,tl,hmro⟩:=PySem.F.called_set.mro
 have hmade:=PySem.F.called_set.made
 have hsub:=PySem.F.called_set.sub
 refine wpAny_call (codeAny_of_tree ?_)
 show wpAny _ _ (callAny (.type "set") _) _ _ _
 refine wpAny_pure ⟨Code.quiet_builtin _ (by decide +kernel),codeAny_builtin PySem.F.entry_type_call ?_⟩
 rw [Around.under_plain (weight_type_call_type "set" [.ref l] []) rfl]
 have h1:=PySem.F.called_set.notType
 have h2:=PySem.F.called_set.canCreate
 have hct:=PySem.F.typeCall_set_1 (.ref l)
 repeat (any_goals (first | assumption | wp_step))
 refine codeAny_mono (code_set_new_1 (.ref l) (E:=E) (Q₁:=fun obj s₁=>∃ led:Bool,obj=.ref s.heap.objs.size∧s₁={s with heap:=s.heap.push {cls:=.type "set",dict:=none,data:=.set #[] 0 (.fresh 0 0 led)}}) fun led=>⟨led,rfl,rfl⟩) fun r s₁ hr=>?_
 cases r with
 | error e=>exact hr
 | ok fl=>
  cases fl with
  | ret obj=>
   obtain⟨led,rfl,rfl⟩:=hr
   have hS:(s.heap.push {cls:=.type "set",dict:=none,data:=.set #[] 0 (.fresh 0 0 led)}).get? s.heap.objs.size=some {cls:=.type "set",dict:=none,data:=.set #[] 0 (.fresh 0 0 led)}:=Heap.get?_push_size _ rfl
   have hT:Shared.TypeIs {s with heap:=s.heap.push {cls:=.type "set",dict:=none,data:=.set #[] 0 (.fresh 0 0 led)}} (.ref s.heap.objs.size) "set":=⟨_,hS,rfl⟩
   have hli:=PySem.F.called_set.init.lookup
   have hbi:=PySem.F.called_set.init.bind (.ref s.heap.objs.size)
   repeat (any_goals (first | assumption | wp_step))
   refine codeAny_mono (codeAny_call_builtin (R:=wants (fun r s₂=>r=.none∧∃ h' tk,s₂={s with heap:=h',toks:=tk}∧
     h'.SetOf (PySem.strKind prog w) s.heap.objs.size (fun k'=>(dM val items.size).any (· == k')) (dM val items.size).length∧
     (∀ b o,b<s.heap.objs.size→s.heap.get? b=some o→h'.get? b=some o)) E) PySem.F.called_set.init.plain PySem.F.entry_set_init (check_set_init_1 hT ?_)) fun r₂ s₂ hr₂=>?_
   ·obtain⟨ol,hol,hcl,nl,hdl⟩:=hl
    obtain⟨ocls,odict,odata,oslots⟩:=ol
    simp only at hcl hdl
    subst hcl; subst hdl
    have hol':(s.heap.push {cls:=.type "set",dict:=none,data:=.set #[] 0 (.fresh 0 0 led)}).get? l=some {cls:=.type "list",dict:=odict,data:=.seq items nl,slots:=oslots}:=Heap.get?_push_of_some _ hol
    have hsls:=jG
    have hslf:=fU
    have hne:(Value.type "list"==Value.type "dict")=false:=by decide
    have hl1:(s.heap.push {cls:=.type "set",dict:=none,data:=.set #[] 0 (.fresh 0 0 led)}).IsList l items:=⟨_,hol',rfl,nl,rfl⟩
    unfold Builtin.«set.__init__» noKeywords Builtin.Frozenset.updateFrom
    generalize hPI:pyIter=PI
    wp_walk
    subst hPI
    refine wpAny_pyIter_list hl1 ?_
    refine wpAny_bind (wpAny_runValue ?_)
    have hlS:l<s.heap.objs.size:=Heap.lt_size hol
    have hh3:A.in1.in1.in1.handled=none:=by simp [hh]
    have hneI:l≠(s.heap.push {cls:=.type "set",dict:=none,data:=.set #[] 0 (.fresh 0 0 led)}).objs.size:=by
     rw [Heap.size_push]; exact Nat.ne_of_lt (Nat.lt_succ_of_lt hlS)
    have hSf:s.heap.objs.size∉[(s.heap.push {cls:=.type "set",dict:=none,data:=.set #[] 0 (.fresh 0 0 led)}).objs.size,l]:=by
     rw [Heap.size_push]; simp only [List.mem_cons,List.mem_singleton,List.not_mem_nil,or_false,not_or]
     exact⟨Nat.ne_of_lt (Nat.lt_succ_self _),Nat.ne_of_gt hlS⟩
    refine jT ((Walks.list hh3 _ l hneI items).toS) s.heap.objs.size
     hSf val hi hb (items.size-0) 0 _ (by omega) (Nat.zero_le _)
     ⟨⟨_,Heap.get?_push_size _ rfl,rfl,rfl⟩,(hl1.push _)⟩ ?hS0 ?hR
    case hS0=>
     have hget:((s.heap.push {cls:=.type "set",dict:=none,data:=.set #[] 0 (.fresh 0 0 led)}).push {cls:=.type "list_iterator",data:=.fields #[.ref l,.int 0 0]}).get? s.heap.objs.size
       = some {cls:=.type "set",dict:=none,data:=.set #[] 0 (.fresh 0 0 led)}:=Heap.get?_push_of_some _ hS
     exact PyProof.Rows.SetOf_congr ((PyProof.Rows.setObjOf_fresh (knd:=PySem.strKind prog w) led).setOf hget (by unfold scanBound; omega)) (fun _=>rfl) rfl
    case hR=>
     intro s' hm hS'
     obtain⟨h',g',d',tk',os'⟩:=s'
     have eg:g'=s.gens:=hm.gens
     have ed:d'=s.drawn:=hm.drawn
     have eo:os'=s.os:=hm.os
     subst eg; subst ed; subst eo
     show wpAny _ _ _ _ _ _
     refine wpAny_pure ?_
     show wpAny _ _ (ret Value.none) _ _ _
     refine wpAny_pure ⟨rfl,h',tk',rfl,hS',fun b o hb e=>?_⟩
     have hb1:b≠s.heap.objs.size:=Nat.ne_of_lt hb
     have hb2:b≠(s.heap.push {cls:=.type "set",dict:=none,data:=.set #[] 0 (.fresh 0 0 led)}).objs.size:=by
      rw [Heap.size_push]; exact Nat.ne_of_lt (Nat.lt_succ_of_lt hb)
     exact hm.heap b o (by simp only [List.mem_cons,List.mem_singleton,List.not_mem_nil,or_false,not_or]; exact⟨hb1,hb2⟩) (Heap.get?_push_of_some _ (Heap.get?_push_of_some _ e))
   ·cases r₂ with
    | error e=>exact hr₂
    | ok fl₂=>
     cases fl₂ with
     | ret r=>
      obtain⟨rfl,h',tk,rfl,hS',hk'⟩:=hr₂
      repeat (any_goals (first | assumption | wp_step))
      exact h _ _ hS' hk'
     | _=>exact hr₂.elim
  | _=>exact hr.elim
theorem iR:isSubtype (.type "tuple") (.type "set")=pure false:=by rw [isSubtype_type]; kernel_rfl
theorem fh:isSubtype (.type "tuple") (.type "frozenset")=pure false:=by rw [isSubtype_type]; kernel_rfl
theorem iH {prog:Program} {w:World} {A:Around} {E:Value→Shared→Prop} {s:Shared} {l:Addr} {items:Array Value} {val:Nat→Str} {Q:Value→Shared→Prop}
  (hh:A.handled=none) (hl:s.heap.IsTuple l items) (hi:∀ (i:Nat) (v:Value),items[i]? = some v→∃ t,v=.str (val i) t) (hb:items.size+1<scanBound)
  (h:∀ (h':Heap) (tk:Nat),h'.SetOf (PySem.strKind prog w) s.heap.objs.size (fun k'=>(dM val items.size).any (· == k')) (dM val items.size).length→
   (∀ b o,b<s.heap.objs.size→s.heap.get? b=some o→h'.get? b=some o)→Q (.ref s.heap.objs.size) {s with heap:=h',toks:=tk}) :
  wpAny (model prog w) A (call (.type "set") [.ref l]) Q E s:=by
 obtain⟨c,tl,hmro⟩:=PySem.F.called_set.mro
 have hmade:=PySem.F.called_set.made
 have hsub:=PySem.F.called_set.sub
 refine wpAny_call (codeAny_of_tree ?_)
 show wpAny _ _ (callAny (.type "set") _) _ _ _
 refine wpAny_pure ⟨Code.quiet_builtin _ (by decide +kernel),codeAny_builtin PySem.F.entry_type_call ?_⟩
 rw [Around.under_plain (weight_type_call_type "set" [.ref l] []) rfl]
 have h1:=PySem.F.called_set.notType
 have h2:=PySem.F.called_set.canCreate
 have hct:=PySem.F.typeCall_set_1 (.ref l)
 repeat (any_goals (first | assumption | wp_step))
 refine codeAny_mono (code_set_new_1 (.ref l) (E:=E) (Q₁:=fun obj s₁=>∃ led:Bool,obj=.ref s.heap.objs.size∧s₁={s with heap:=s.heap.push {cls:=.type "set",dict:=none,data:=.set #[] 0 (.fresh 0 0 led)}}) fun led=>⟨led,rfl,rfl⟩) fun r s₁ hr=>?_
 cases r with
 | error e=>exact hr
 | ok fl=>
  cases fl with
  | ret obj=>
   obtain⟨led,rfl,rfl⟩:=hr
   have hS:(s.heap.push {cls:=.type "set",dict:=none,data:=.set #[] 0 (.fresh 0 0 led)}).get? s.heap.objs.size=some {cls:=.type "set",dict:=none,data:=.set #[] 0 (.fresh 0 0 led)}:=Heap.get?_push_size _ rfl
   have hT:Shared.TypeIs {s with heap:=s.heap.push {cls:=.type "set",dict:=none,data:=.set #[] 0 (.fresh 0 0 led)}} (.ref s.heap.objs.size) "set":=⟨_,hS,rfl⟩
   have hli:=PySem.F.called_set.init.lookup
   have hbi:=PySem.F.called_set.init.bind (.ref s.heap.objs.size)
   repeat (any_goals (first | assumption | wp_step))
   refine codeAny_mono (codeAny_call_builtin (R:=wants (fun r s₂=>r=.none∧∃ h' tk,s₂={s with heap:=h',toks:=tk}∧
     h'.SetOf (PySem.strKind prog w) s.heap.objs.size (fun k'=>(dM val items.size).any (· == k')) (dM val items.size).length∧
     (∀ b o,b<s.heap.objs.size→s.heap.get? b=some o→h'.get? b=some o)) E) PySem.F.called_set.init.plain PySem.F.entry_set_init (check_set_init_1 hT ?_)) fun r₂ s₂ hr₂=>?_
   ·obtain⟨ol,hol,hcl,nl,hdl⟩:=hl
    obtain⟨ocls,odict,odata,oslots⟩:=ol
    simp only at hcl hdl
    subst hcl; subst hdl
    have hol':(s.heap.push {cls:=.type "set",dict:=none,data:=.set #[] 0 (.fresh 0 0 led)}).get? l=some {cls:=.type "tuple",dict:=odict,data:=.seq items nl,slots:=oslots}:=Heap.get?_push_of_some _ hol
    have hsls:=iR
    have hslf:=fh
    have hne:(Value.type "tuple"==Value.type "dict")=false:=by decide
    have hl1:(s.heap.push {cls:=.type "set",dict:=none,data:=.set #[] 0 (.fresh 0 0 led)}).IsTuple l items:=⟨_,hol',rfl,nl,rfl⟩
    unfold Builtin.«set.__init__» noKeywords Builtin.Frozenset.updateFrom
    generalize hPI:pyIter=PI
    wp_walk
    subst hPI
    refine wpAny_pyIter_tuple hl1 ?_
    refine wpAny_bind (wpAny_runValue ?_)
    have hlS:l<s.heap.objs.size:=Heap.lt_size hol
    have hh3:A.in1.in1.in1.handled=none:=by simp [hh]
    have hneI:l≠(s.heap.push {cls:=.type "set",dict:=none,data:=.set #[] 0 (.fresh 0 0 led)}).objs.size:=by
     rw [Heap.size_push]; exact Nat.ne_of_lt (Nat.lt_succ_of_lt hlS)
    have hSf:s.heap.objs.size∉[(s.heap.push {cls:=.type "set",dict:=none,data:=.set #[] 0 (.fresh 0 0 led)}).objs.size,l]:=by
     rw [Heap.size_push]; simp only [List.mem_cons,List.mem_singleton,List.not_mem_nil,or_false,not_or]
     exact⟨Nat.ne_of_lt (Nat.lt_succ_self _),Nat.ne_of_gt hlS⟩
    refine jT ((Walks.tuple hh3 _ l hneI items).toS) s.heap.objs.size
     hSf val hi hb (items.size-0) 0 _ (by omega) (Nat.zero_le _)
     ⟨⟨_,Heap.get?_push_size _ rfl,rfl,rfl⟩,(hl1.push _)⟩ ?hS0 ?hR
    case hS0=>
     have hget:((s.heap.push {cls:=.type "set",dict:=none,data:=.set #[] 0 (.fresh 0 0 led)}).push {cls:=.type "tuple_iterator",data:=.fields #[.ref l,.int 0 0]}).get? s.heap.objs.size
       = some {cls:=.type "set",dict:=none,data:=.set #[] 0 (.fresh 0 0 led)}:=Heap.get?_push_of_some _ hS
     exact PyProof.Rows.SetOf_congr ((PyProof.Rows.setObjOf_fresh (knd:=PySem.strKind prog w) led).setOf hget (by unfold scanBound; omega)) (fun _=>rfl) rfl
    case hR=>
     intro s' hm hS'
     obtain⟨h',g',d',tk',os'⟩:=s'
     have eg:g'=s.gens:=hm.gens
     have ed:d'=s.drawn:=hm.drawn
     have eo:os'=s.os:=hm.os
     subst eg; subst ed; subst eo
     show wpAny _ _ _ _ _ _
     refine wpAny_pure ?_
     show wpAny _ _ (ret Value.none) _ _ _
     refine wpAny_pure ⟨rfl,h',tk',rfl,hS',fun b o hb e=>?_⟩
     have hb1:b≠s.heap.objs.size:=Nat.ne_of_lt hb
     have hb2:b≠(s.heap.push {cls:=.type "set",dict:=none,data:=.set #[] 0 (.fresh 0 0 led)}).objs.size:=by
      rw [Heap.size_push]; exact Nat.ne_of_lt (Nat.lt_succ_of_lt hb)
     exact hm.heap b o (by simp only [List.mem_cons,List.mem_singleton,List.not_mem_nil,or_false,not_or]; exact⟨hb1,hb2⟩) (Heap.get?_push_of_some _ (Heap.get?_push_of_some _ e))
   ·cases r₂ with
    | error e=>exact hr₂
    | ok fl₂=>
     cases fl₂ with
     | ret r=>
      obtain⟨rfl,h',tk,rfl,hS',hk'⟩:=hr₂
      repeat (any_goals (first | assumption | wp_step))
      exact h _ _ hS' hk'
     | _=>exact hr₂.elim
  | _=>exact hr.elim
def xj (P:Program) (w:World) (p:Addr) (xs:List Str):HO:=HO.ext fun h=>h.SetOf (PySem.strKind P w) p (fun k=>(xs.foldl dq []).any (· == k)) (xs.foldl dq []).length
theorem ql (xs:List Str):dM (fun i=>xs.getD i Str.empty) xs.length=xs.foldl dq []:=by
 unfold dM
 congr 1
 apply List.ext_getElem
 ·simp
 ·intro i h1 h2
  simp [List.getD,h2]
theorem lA {xs:List Str} {its:List Value} (r:aI (xs.map V.str) its):∀ (i:Nat) (v:Value),its.toArray[i]? = some v→∃ t,v=.str (xs.getD i Str.empty) t:=fun i v e=>by
 have hlen:=r.length
 rw [List.length_map] at hlen
 have e:its[i]? = some v:=by simpa using e
 have hi:i<its.length:=(List.getElem?_eq_some_iff.mp e).1
 have hb:i<xs.length:=by omega
 obtain⟨u,hu,ru⟩:=r.get (i:=i) (x:=V.str xs[i]) (by simp [hb])
 rw [e] at hu; cases hu
 obtain⟨t,rfl⟩:=ru
 exact⟨t,by simp [List.getD,hb]⟩
section
variable {X:Cx}
theorem qK (hc:X.calm=true):cX X (.type "set") (fun xs H Q=>∃ (p:Addr) (ys:List Str),xs=[.ref p]∧(SqL X.K H p (ys.map V.str)∨SqT X.K H p (ys.map V.str))∧ys.length+1<scanBound∧∀ d,H d=none→Q (.ref d) (upd H d (xj X.prog X.w d ys))):=by
 intro pins s σ H xs us Q I r h
 obtain⟨p,ys,rfl,hq,hb,q⟩:=h
 obtain⟨u,rfl,rx⟩:=eB r
 cases rx
 have fin:∀ (its:List Value),ys.length=its.length→∀ (h':Heap) (tk:Nat),h'.SetOf (PySem.strKind X.prog X.w) s.heap.objs.size (fun k'=>(dM (fun i=>ys.getD i Str.empty) its.toArray.size).any (· == k')) (dM (fun i=>ys.getD i Str.empty) its.toArray.size).length→
   (∀ b o,b<s.heap.objs.size→s.heap.get? b=some o→h'.get? b=some o)→EP X pins σ Q (.ref s.heap.objs.size) {s with heap:=h',toks:=tk}:=fun its hl h' tk hS kk=>by
  have esz:its.toArray.size=ys.length:=by rw [List.size_toArray,hl]
  rw [esz,ql] at hS
  refine⟨.ref s.heap.objs.size,_,I.laid (t':=tk) (fun b o e=>kk b o (Heap.lt_size e) e) (Nat.le_refl _) ?_,rfl,q _ (I.hok.fresh (Nat.le_refl _))⟩
  refine⟨hS,?_,fun h1 h2 a b=>?_⟩
  ·obtain⟨o,es,ep,t,ho,_⟩:=hS
   exact⟨o,ho⟩
  ·obtain⟨o,es,ep,t,ho,rest⟩:=a
   exact⟨o,es,ep,t,b o ho,rest⟩
 rcases hq with hq | hq
 ·obtain⟨its,r',pl,hz⟩:=I.list hq
  have hlen:=r'.length
  rw [List.length_map] at hlen
  exact jz (val:=fun i=>ys.getD i Str.empty) (I.ok.hd hc) pl.isList (lA r') (by rw [List.size_toArray]; omega) (fin its hlen)
 ·obtain⟨its,r',pl,hz⟩:=I.tuple hq
  have hlen:=r'.length
  rw [List.length_map] at hlen
  exact iH (val:=fun i=>ys.getD i Str.empty) (I.ok.hd hc) pl (lA r') (by rw [List.size_toArray]; omega) (fin its hlen)
theorem qM:cX X (.builtin "len") (fun xs H Q=>∃ (p:Addr) (ys:List Str),xs=[.ref p]∧H p=some (xj X.prog X.w p ys)∧Q (.int (ys.foldl dq []).length) H):=by
 intro pins s σ H xs us Q I r h
 obtain⟨p,ys,rfl,hp,q⟩:=h
 obtain⟨u,rfl,rx⟩:=eB r
 cases rx
 obtain⟨hS,_,_⟩:=I.hok p _ hp
 have hS:s.heap.SetOf (PySem.strKind X.prog X.w) p (fun k=>(ys.foldl dq []).any (· == k)) (ys.foldl dq []).length:=hS
 obtain⟨o,es,ep,t,ho,hex,hd,_,_,hsb,hf,hn⟩:=hS
 refine call_len_set ho hex hd hf (by unfold scanBound at hsb; omega) ⟨.int (ys.foldl dq []).length,H,I.tok _,⟨_,by rw [hn]⟩,q⟩
end
theorem iz:∀ (xs σ:List Str),xs.Nodup→(∀ x∈xs,¬ x∈σ)→(xs.foldl dq σ).length=σ.length+xs.length
 | [],σ,_,_=>by simp
 | x::r,σ,h,hn=>by
  obtain⟨h1,h2⟩:=List.nodup_cons.mp h
  have e:dq σ x=σ++[x]:=by
   unfold dq
   rw [if_neg]
   intro z
   obtain⟨y,hy,e⟩:=List.any_eq_true.mp z
   exact hn x List.mem_cons_self (by rw [← eq_of_beq e]; exact hy)
  rw [List.foldl_cons,e,iz r _ h2 fun y hy z=>?_]
  ·simp; omega
  ·rcases List.mem_append.mp z with q | q
   ·exact hn y (List.mem_cons_of_mem _ hy) q
   ·exact h1 (by rw [← List.mem_singleton.mp q]; exact hy)
section
variable {X:Cx}
mutual
inductive jB (H:Hp):V→PyData→Prop where
 | non:jB H .non .none
 | bl (b:Bool):jB H (.bl b) (.bool b)
 | int (i:Int):jB H (.int i) (.int i)
 | str (x:Str):jB H (.str x) (.str x)
 | lst {a:Addr} {xs:List V} {ds:List PyData}:H a=some (.lst xs)→em H xs ds→jB H (.ref a) (.list ds)
 | tup {a:Addr} {xs:List V} {ds:List PyData}:H a=some (.tup xs)→em H xs ds→jB H (.ref a) (.tuple ds)
inductive em (H:Hp):List V→List PyData→Prop where
 | nil:em H [] []
 | cons {x:V} {xs:List V} {d:PyData} {ds:List PyData}:jB H x d→em H xs ds→em H (x::xs) (d::ds)
end
mutual
theorem jB.reads {P:Program} {w:World} {H:Hp} {h:Heap} (ok:HOk P w H h):∀ {x:V} {d:PyData},jB H x d→∀ {u:Value},aM x u→∃ as,Reads h u d as
 | _,_,.non,u,r=>by cases r; exact⟨_,.none⟩
 | _,_,.bl b,u,r=>by cases r; exact⟨_,.bool b⟩
 | _,_,.int i,u,r=>by obtain⟨t,rfl⟩:=r; exact⟨_,.int i t⟩
 | _,_,.str x,u,r=>by obtain⟨t,rfl⟩:=r; exact⟨_,.str x t⟩
 | _,_,.lst (a:=a) e z,u,r=>by
  cases r
  obtain⟨_,its,n,rv,e1⟩:=ok a _ e
  obtain⟨as,q⟩:=em.reads ok z rv
  exact⟨_,.list e1 rfl rfl (by simpa using q)⟩
 | _,_,.tup (a:=a) e z,u,r=>by
  cases r
  obtain⟨_,its,rv,o,e1,e2,n,e3⟩:=ok a _ e
  obtain⟨as,q⟩:=em.reads ok z rv
  exact⟨_,.tuple e1 e2 e3 (by simpa using q)⟩
theorem em.reads {P:Program} {w:World} {H:Hp} {h:Heap} (ok:HOk P w H h):∀ {xs:List V} {ds:List PyData},em H xs ds→∀ {us:List Value},aI xs us→∃ as,ReadsAll h us ds as
 | _,_,.nil,_,.nil=>⟨_,.nil⟩
 | _,_,.cons a b,_,.cons r t=>by
  obtain⟨as,q1⟩:=jB.reads ok a r
  obtain⟨bs,q2⟩:=em.reads ok b t
  exact⟨_,.cons q1 q2⟩
end
theorem fR {T:String}:cX X (.builtin "isinstance") (fun xs H Q=>∃ (x:V) (t:Value) (b:Bool),xs=[x,.ty T]∧eY X.K H x t∧PySem.W.kitOne X.K t (.type T)=some b∧Q (.bl b) H):=by
 intro pins s σ H xs us Q I r h
 obtain⟨x,t,b,rfl,ty,e,q⟩:=h
 obtain⟨u,u',rfl,rx,ry⟩:=io r
 cases ry
 exact qu I rx ty e fun tk=>⟨.bl b,H,I.tok tk,rfl,q⟩
theorem oi {pins:List (Addr×Obj)} {σ:St} {H:Hp} {s:Shared} {A:Around} {E:Value→Shared→Prop} {Q:Value→Shared→Prop} {b:Bool} {x:V} {u t:Value} {tp:Addr} {cs:List Value} (I:Inv X pins σ H s) (rx:aM x u) (ty:eY X.K H x t)
  (htp:∃ (dd:Option Addr) (n:Nat) (sl:Array (Option Value)),s.heap.get? tp=some ⟨.type "tuple",dd,.seq cs.toArray n,sl⟩) (e:PySem.W.kitAny X.K t cs=some b) (h:∀ tk,Q (.bool b) {s with toks:=tk}) :
  wpAny (model X.prog X.w) A (call (.builtin "isinstance") [u,.ref tp]) Q E s:=by
 obtain⟨dd,n,sl,htp⟩:=htp
 cases ty with
 | non=>cases (show u=Value.none from rx); exact PySem.W.kia_tup PySem.W.kitx_none I.kIn True.intro htp e (fun z=>nomatch z) h
 | bl y=>cases (show u=Value.bool y from rx); exact PySem.W.kia_tup PySem.W.kitx_bool I.kIn True.intro htp e (fun z=>nomatch z) h
 | int i=>obtain⟨t,q⟩:=(show ∃ t,u=Value.int i t from rx); cases q; exact PySem.W.kia_tup PySem.W.kitx_int I.kIn True.intro htp e (fun z=>nomatch z) h
 | str y=>obtain⟨t,q⟩:=(show ∃ t,u=Value.str y t from rx); cases q; exact PySem.W.kia_tup PySem.W.kitx_str I.kIn True.intro htp e (fun z=>nomatch z) h
 | flt y=>obtain⟨t,q⟩:=(show ∃ t,u=Value.float y t from rx); cases q; exact PySem.W.kia_tup PySem.W.kitx_float I.kIn True.intro htp e (fun z=>nomatch z) h
 | @lst a xs ea=>
  cases (show u=Value.ref a from rx)
  obtain⟨_,_,n,_,h1⟩:=(show bh X.prog X.w H s.heap a (.lst xs) from I.hok a _ ea)
  exact PySem.W.kia_tup PySem.W.kitx_list I.kIn ⟨_,h1,rfl⟩ htp e (fun z=>nomatch z) h
 | @frz a ob xs ea=>
  cases (show u=Value.ref a from rx)
  obtain⟨_,_,_,n,_,h1⟩:=(show bh X.prog X.w H s.heap a (.frz ob (.lst xs)) from I.hok a _ ea)
  exact PySem.W.kia_tup PySem.W.kitx_list I.kIn ⟨_,h1,rfl⟩ htp e (fun z=>nomatch z) h
 | @tup a xs ea=>
  cases (show u=Value.ref a from rx)
  obtain⟨_,_,_,p⟩:=(show bh X.prog X.w H s.heap a (.tup xs) from I.hok a _ ea)
  obtain⟨o,h1,h2,_⟩:=p
  exact PySem.W.kia_tup PySem.W.kitx_tuple I.kIn ⟨o,h1,h2⟩ htp e (fun z=>nomatch z) h
 | @dK a kvs ea=>
  cases (show u=Value.ref a from rx)
  obtain⟨_,_,vs,_,p⟩:=(show bh X.prog X.w H s.heap a (.dK kvs) from I.hok a _ ea)
  obtain⟨o,es,ep,h1,h2,_⟩:=p
  exact PySem.W.kia_tup PySem.W.kitx_dict I.kIn ⟨o,h1,h2.1⟩ htp e (fun z=>nomatch z) h
 | @dT a kvs ea=>
  cases (show u=Value.ref a from rx)
  obtain⟨_,_,xs,_,o,es,ep,h1,h2,_⟩:=(show bh X.prog X.w H s.heap a (.dT kvs) from I.hok a _ ea)
  exact PySem.W.kia_tup PySem.W.kitx_dict I.kIn ⟨o,h1,h2.1⟩ htp e (fun z=>nomatch z) h
 | @ins a C dx fs ea cl ha hn htk hm=>
  cases (show u=Value.ref a from rx)
  obtain⟨mA,O,_⟩:=gI I.hok ea
  obtain⟨od,J,_⟩:=O.look
  exact PySem.W.kia_tup (PySem.W.kitx_own (cl.get _) cl.hd ha hn htk hm) I.kIn J htp e (fun z=>nomatch z) h
theorem j8 {T U:String}:cX X (.builtin "isinstance") (fun xs H Q=>∃ (x:V) (p:Addr) (t:Value) (b:Bool),xs=[x,.ref p]∧H p=some (.tup [.ty T,.ty U])∧eY X.K H x t∧PySem.W.kitAny X.K t [.type T,.type U]=some b∧Q (.bl b) H):=by
 intro pins s σ H xs us Q I r h
 obtain⟨x,p,t,b,rfl,hp,ty,e,q⟩:=h
 obtain⟨u,u',rfl,rx,ry⟩:=io r
 cases ry
 obtain⟨_,its,rv,o,h1,h2,n,h3⟩:=I.hok p _ hp
 obtain⟨a,b',rfl,ra,rb⟩:=io rv
 cases ra
 cases rb
 refine oi (cs:=[.type T,.type U]) I rx ty ?_ e fun tk=>⟨.bl b,H,I.tok tk,rfl,q⟩
 obtain⟨oc,od,odt,osl⟩:=o
 cases h2
 cases h3
 exact⟨od,n,osl,h1⟩
end
section
variable {X:Cx}
def rH (K:PySem.W.Frag):R2:=fun x y H Q=>∃ a b xs ys,x=.ref a∧y=.ref b∧SqT K H a xs∧SqT K H b ys∧xs.length+ys.length≤sizeLine∧
 (xs=[]→Q (.ref b) H)∧(xs≠[]→ys=[]→Q (.ref a) H)∧(xs≠[]→ys≠[]→∀ p,H p=none→Q (.ref p) (upd H p (.tup (xs++ys))))
theorem jf:OpR X (binaryOp .Add) (rH X.K):=by
 intro pins s σ H x y v u Q I rx ry h
 obtain⟨a,b,xs,ys,rfl,rfl,ha,hb,hz,q0,q1,q2⟩:=h
 by_cases hx:xs=[]
 ·cases rx
  cases ry
  obtain⟨its,r1,p1,_⟩:=I.tuple ha
  obtain⟨its2,r2,p2,_⟩:=I.tuple hb
  obtain⟨⟨cls,dd,data,sl⟩,ho,hc,n,hd⟩:=id p1
  obtain⟨⟨cls2,dd2,data2,sl2⟩,ho2,hc2,n2,hd2⟩:=id p2
  simp only at hc hd hc2 hd2
  subst hc hd hc2 hd2
  have e:its=[]:=r1.nil_iff.mpr hx
  exact concat_meets ⟨_,ho,rfl⟩ ⟨_,ho2,rfl⟩ noFill_tuple_add seq_tuple_add PySem.F.slot_tuple_add PySem.F.entry_tuple_add (PySem.F.args_tuple_add_2 _ _)
   (tuple_addW0 a b its.toArray its2.toArray n n2 dd dd2 sl sl2 (by simp [e])) ⟨ho,ho2,⟨.ref b,H,I,rfl,q0 hx⟩⟩
 ·exact uQ pins s σ H _ _ v u Q I rx ry ⟨a,b,xs,ys,rfl,rfl,ha,hb,hx,hz,q1 hx,q2 hx⟩
theorem cC:bootBuiltins "len"=some (.builtin "len"):=by decide +kernel
theorem xc:bootBuiltins "max"=some (.builtin "max"):=by decide +kernel
theorem t6:bootBuiltins "abs"=some (.builtin "abs"):=by decide +kernel
theorem qP:bootBuiltins "divmod"=some (.builtin "divmod"):=by decide +kernel
theorem xg:bootBuiltins "all"=some (.builtin "all"):=by decide +kernel
theorem bA:bootBuiltins "isinstance"=some (.builtin "isinstance"):=by decide +kernel
theorem kX:bootBuiltins "sum"=some (.builtin "sum"):=by decide +kernel
theorem j9:bootBuiltins "sorted"=some (.builtin "sorted"):=by decide +kernel
theorem ei:bootBuiltins "list"=some (.type "list"):=by decide +kernel
theorem d8:bootBuiltins "tuple"=some (.type "tuple"):=by decide +kernel
theorem xf:bootBuiltins "int"=some (.type "int"):=by decide +kernel
theorem xa:bootBuiltins "str"=some (.type "str"):=by decide +kernel
theorem xb:bootBuiltins "set"=some (.type "set"):=by decide +kernel
theorem vq:bootBuiltins "dict"=some (.type "dict"):=by decide +kernel
theorem vt:bootBuiltins "bool"=some (.type "bool"):=by decide +kernel
theorem t5:bootBuiltins "range"=some (.type "range"):=by decide +kernel
def Def (P:Program) (w:World) (K:PySem.W.Frag) (mg:Str→Option Value) (base:Heap) (x:Str) (k:Nat) (ps:List Str) (sp:Sp):Prop:=
 ∃ f fd,mg x=some (.ref f)∧PySem.W.keepIn K (.ref f)=true∧cH K fd ps []∧dk P w K mg base CX0 k f fd ps sp
theorem aJ {x:Str} {k:Nat} {ps:List Str} {sp:Sp} {p pos:Pos} {e:Expr} {es:List Expr} {t:TA} (D:Def X.prog X.w X.K X.mg X.base x k ps sp) (hr:bN k X.A) (hg:Gl X x) (ha:PA X (e::es) t)
  (hdb:(x==("__debug__":Str))=false:=by decide) (he:starEach (e::es) X.env=(false,eval e X.env)::starEach es X.env:=by rfl) (hpl:(backTo pos (starEach es X.env)).any (·.1)=false:=by rfl) :
  PE X (.Call (.Name x p) (e::es) [] pos) (jP sp [] E0 t):=by
 obtain⟨f,fd,hm,hk,hb,F⟩:=D
 exact kG F hr hg hm hk hb .nil ix ha hdb he hpl
structure aL (K:PySem.W.Frag) (mg:Str→Option Value) (x:Str) (st:Stmt) (ps:List Str):Prop where
 ex:∃ f fd,Fun K x x st f fd∧mg x=some (.ref f)∧cH K fd ps []
theorem aL.mk' {P:Program} {w:World} {K:PySem.W.Frag} {mg:Str→Option Value} {base:Heap} {x:Str} {st:Stmt} {N ps:List Str} {k:Nat} {sp:Sp} (F:aL K mg x st ps) (S:aB N ps (ah st)) (len:∀ vs H Q E,sp vs H Q E→vs.length=ps.length)
  (hbody:∀ (f:Addr) (cdv:Value) (A:Around) (outer:List Env) (s:Shared) (H:Hp) (vs:List V) (Q:VK) (E:XK),bN k (A.deeper (envOfC x (ah st) s.heap.objs.size f cdv))→sp vs H Q E→
   ∃ t,PSs (jr CX0 P w K mg base N x (ah st) f cdv A outer s H E).nox (b7 st) t∧t {nx:=fun _ H'=>Q .non H',rt:=Q} (cR N vs) H):Def P w K mg base x (k+1) ps sp:=by
 obtain⟨f,fd,Fn,hm,hb⟩:=F.ex
 exact⟨f,fd,hm,Fn.kp,hb,Fn.ok S len (hbody f)⟩
theorem gF {X:Cx}:∀ v s,¬ (X.nox).xe v s:=fun _ _ z=>z
def ay (p:Addr) (H H':Hp):Prop:=∀ b o,b≠p→H b=some o→H' b=some o
theorem ay.trans {p:Addr} {H H1 H2:Hp} (a:ay p H H1) (b:ay p H1 H2):ay p H H2:=fun c o n h=>b c o n (a c o n h)
theorem ay.refl (p:Addr) (H:Hp):ay p H H:=fun _ _ _ h=>h
theorem ay.upd (p:Addr) (H:Hp) (o:HO):ay p H (upd H p o):=fun b u n h=>by rw [ag n]; exact h
theorem af {H:Hp} {p:Addr} (h:H p=none) (o:HO):av H (upd H p o):=fun b u e=>by rw [ag (al e h)]; exact e
theorem av.x {p:Addr} {H H':Hp} (a:av H H'):ay p H H':=fun b o _ h=>a b o h
end
theorem ay.same {p:Addr} {H H1 H2:Hp} (a:ay p H H1) (b:av H1 H2):ay p H H2:=fun c o n h=>b c o (a c o n h)
theorem ay.free {p:Addr} {H H':Hp} (e:ay p H H') {l:Addr} (n:l≠p) (h:H' l=none):H l=none:=by
 cases q:H l with
 | none=>rfl
 | some o=>rw [e l o n q] at h; cases h
theorem eP {α:Type} {xs:List α} {i:Int} {x:α} (h0:0≤i) (h:xs[i.toNat]? = some x):atI xs i=some x:=by
 have:=pJ h
 rwa [Int.toNat_of_nonneg h0] at this
theorem xP {n:Nat} {i:Int} (h0:0≤i) (h1:i<n):seqIndex? i n=some i.toNat:=by
 unfold seqIndex?
 simp [show ¬ (i<0) by omega,h0,h1]
structure cw (n:Nat) (N' N:List Str) (osc scope:Scope):Prop where
 kind:scope.kind=.function
 names:∀ x∈scope.names,x.2=.local→scope.names.lookup x.1=some .local
 cell:∀ x∈scope.names,x.2≠.cell
 free:∀ x∈scope.names,x.2=.free→osc.names.lookup x.1=some .cell∨osc.names.lookup x.1=some .free
 nd:N'.Nodup
 len:N'.length=n+N.length
 look:sM n N' N scope.names=true
theorem cw.at {X:Cx} {n:Nat} {N':List Str} {scope:Scope} (h:cw n N' X.N X.env.scope scope):bU n N' X scope:=⟨h.kind,h.names,h.cell,h.free,h.nd,h.len,h.look⟩
end L2
set_option maxHeartbeats 4000000
namespace L2
open PySem PySem.Spec PyProof.Rows
mutual
inductive RdV (R:Addr→Prop) (H:Hp):V→PyData→Prop where
 | non:RdV R H .non .none
 | bl (b:Bool):RdV R H (.bl b) (.bool b)
 | int (i:Int):RdV R H (.int i) (.int i)
 | str (x:Str):RdV R H (.str x) (.str x)
 | lst {a:Addr} {xs:List V} {ds:List PyData}:R a→H a=some (.lst xs)→RdA R H xs ds→RdV R H (.ref a) (.list ds)
 | tup {a:Addr} {xs:List V} {ds:List PyData}:R a→H a=some (.tup xs)→RdA R H xs ds→RdV R H (.ref a) (.tuple ds)
inductive RdA (R:Addr→Prop) (H:Hp):List V→List PyData→Prop where
 | nil:RdA R H [] []
 | cons {x:V} {xs:List V} {d:PyData} {ds:List PyData}:RdV R H x d→RdA R H xs ds→RdA R H (x::xs) (d::ds)
end
mutual
theorem RdV.mono {R R':Addr→Prop} {H H':Hp} (hR:∀ a,R a→R' a) (hH:∀ a o,R a→H a=some o→H' a=some o):∀ {x:V} {d:PyData},RdV R H x d→RdV R' H' x d
 | _,_,.non=>.non
 | _,_,.bl b=>.bl b
 | _,_,.int i=>.int i
 | _,_,.str x=>.str x
 | _,_,.lst r e z=>.lst (hR _ r) (hH _ _ r e) (RdA.mono hR hH z)
 | _,_,.tup r e z=>.tup (hR _ r) (hH _ _ r e) (RdA.mono hR hH z)
theorem RdA.mono {R R':Addr→Prop} {H H':Hp} (hR:∀ a,R a→R' a) (hH:∀ a o,R a→H a=some o→H' a=some o):∀ {xs:List V} {ds:List PyData},RdA R H xs ds→RdA R' H' xs ds
 | _,_,.nil=>.nil
 | _,_,.cons a b=>.cons (RdV.mono hR hH a) (RdA.mono hR hH b)
end
mutual
def dR:PyData→Bool
 | .list _=>false
 | .tuple ds=>cm ds
 | _=>true
def cm:List PyData→Bool
 | []=>true
 | d::r=>dR d&&cm r
end
mutual
theorem RdV.monoT {R R':Addr→Prop} {H H':Hp} (hR:∀ a,R a→R' a) (hH:∀ a xs,H a=some (.tup xs)→H' a=some (.tup xs)):∀ {x:V} {d:PyData},dR d=true→RdV R H x d→RdV R' H' x d
 | _,_,_,.non=>.non
 | _,_,_,.bl b=>.bl b
 | _,_,_,.int i=>.int i
 | _,_,_,.str x=>.str x
 | _,_,h,.lst r e z=>by simp [dR] at h
 | _,_,h,.tup r e z=>.tup (hR _ r) (hH _ _ e) (RdA.monoT hR hH (by simpa [dR] using h) z)
theorem RdA.monoT {R R':Addr→Prop} {H H':Hp} (hR:∀ a,R a→R' a) (hH:∀ a xs,H a=some (.tup xs)→H' a=some (.tup xs)):∀ {xs:List V} {ds:List PyData},cm ds=true→RdA R H xs ds→RdA R' H' xs ds
 | _,_,_,.nil=>.nil
 | _,_,h,.cons a b=>by
  simp only [cm,Bool.and_eq_true] at h
  exact .cons (RdV.monoT hR hH h.1 a) (RdA.monoT hR hH h.2 b)
end
section
variable {R:Addr→Prop} {H H':Hp} {v:V} {xs ys:List V} {ds es:List PyData} {d:PyData}
theorem RdV.same (hs:av H H') (h:RdV R H v d):RdV R H' v d:=h.mono (fun _ r=>r) fun a o _ e=>hs a o e
theorem RdA.same (hs:av H H') (h:RdA R H xs ds):RdA R H' xs ds:=h.mono (fun _ r=>r) fun a o _ e=>hs a o e
theorem RdV.list_inv (h:RdV R H v (.list ds)):∃ a xs,v=.ref a∧R a∧H a=some (.lst xs)∧RdA R H xs ds:=by cases h with | lst r e z=>exact⟨_,_,rfl,r,e,z⟩
theorem RdV.tuple_inv (h:RdV R H v (.tuple ds)):∃ a xs,v=.ref a∧R a∧H a=some (.tup xs)∧RdA R H xs ds:=by cases h with | tup r e z=>exact⟨_,_,rfl,r,e,z⟩
theorem RdV.str_inv {x:Str} (h:RdV R H v (.str x)):v=.str x:=by cases h; rfl
theorem RdA.length:∀ {xs:List V} {ds:List PyData},RdA R H xs ds→xs.length=ds.length
 | _,_,.nil=>rfl
 | _,_,.cons _ t=>by rw [List.length_cons,List.length_cons,RdA.length t]
theorem RdA.getV:∀ {xs:List V} {ds:List PyData} {i:Nat} {x:V},RdA R H xs ds→xs[i]? = some x→∃ d,ds[i]? = some d∧RdV R H x d
 | _,_,_,_,.nil,h=>by simp at h
 | _,_,0,_,.cons a t,h=>by simp at h; subst h; exact⟨_,rfl,a⟩
 | _,_,i+1,_,.cons a t,h=>by simpa using RdA.getV (i:=i) t (by simpa using h)
theorem RdA.append:∀ {xs ys:List V} {ds es:List PyData},RdA R H xs ds→RdA R H ys es→RdA R H (xs++ys) (ds++es)
 | _,_,_,_,.nil,h=>h
 | _,_,_,_,.cons a t,h=>.cons a (RdA.append t h)
theorem RdA.snoc (h:RdA R H xs ds) (a:RdV R H v d):RdA R H (xs++[v]) (ds++[d]):=h.append (.cons a .nil)
theorem RdA.strs:∀ ws:List Str,RdA R H (ws.map V.str) (ws.map PyData.str)
 | []=>.nil
 | x::r=>.cons (.str x) (RdA.strs r)
theorem RdA.strs_inv:∀ {ws:List Str} {xs:List V},RdA R H xs (ws.map PyData.str)→xs=ws.map V.str
 | [],_,.nil=>rfl
 | _::_,_,.cons a t=>by rw [RdV.str_inv a,RdA.strs_inv t]; rfl
theorem RdA.two (h:RdA R H xs [d,e]):∃ x y,xs=[x,y]∧RdV R H x d∧RdV R H y e:=by
 cases h with | cons a t=>cases t with | cons b t=>cases t; exact⟨_,_,rfl,a,b⟩
theorem RdA.three {f:PyData} (h:RdA R H xs [d,e,f]):∃ x y z,xs=[x,y,z]∧RdV R H x d∧RdV R H y e∧RdV R H z f:=by
 cases h with | cons a t=>cases t with | cons b t=>cases t with | cons c t=>cases t; exact⟨_,_,_,rfl,a,b,c⟩
end
inductive fT:List Expr→List Str→Prop where
 | nil:fT [] []
 | cons {x:Str} {j:Nat} {pos:Pos} {es:List Expr} {ws:List Str}:fT es ws→fT (.Constant (.str x) j pos::es) (x::ws)
def vK (ws:List Str):TA:=fun _ H Q=>Q (ws.map V.str) H
theorem pj {X:Cx} {es:List Expr} {ws:List Str} (h:fT es ws):PA X es (vK ws):=by
 induction h with
 | nil=>exact ae
 | cons h ih=>
  rename_i x j pos es ws
  intro pos' pins s σ H Q I hq
  exact aa (te:=tC (.str x)) (t:=vK ws) gh ih rfl pos' pins s σ H Q I hq
section
variable {X:Cx}
theorem ap {sc:Scope} {x:Str} (h:sc.names.lookup x=some .local):Vis sc x:=.inl h
theorem d4 {sc:Scope} {x:Str} (h:sc.names.lookup x=some .cell):Vis sc x:=.inr (.inl h)
theorem eZ {scope:Scope} {env:Env} {x:Str} (h:scope.names.lookup x=some .free):Vis (relabel scope env) x:=by
 have e:(relabel scope env).names.lookup x=_:=db
 rw [h] at e
 simp only [Option.map_some] at e
 split at e
 ·exact .inr (.inl e)
 ·exact .inr (.inr e)
theorem eW {scope:Scope} {env:Env} {x:Str} (h:scope.names.lookup x=some .local):Vis (relabel scope env) x:=.inl (lookup_relabel_local h)
theorem eL {scope:Scope} {env:Env} {x:Str} (h:scope.names.lookup x=some .local):Loc (relabel scope env) x:=.inl (lookup_relabel_local h)
theorem glO {scope:Scope} {env:Env} {x:Str} (h:scope.names.lookup x=some .globalImplicit):(relabel scope env).names.lookup x=some .globalImplicit:=by
 have e:(relabel scope env).names.lookup x=_:=db
 rw [h] at e
 exact e
theorem pq (i:Nat) {x:Str} {pos:Pos} (hv:Vis X.env.scope x) (hd:(x==("__debug__":Str))=false) (hcd:(x==("__classdict__":Str))=false) (hN:X.N[i]? = some x:=by rfl):PE X (.Name x pos) (pV i):=wH hN hv hd hcd
end
section
variable {P:Program} {w:World} {A:Around} {E:Value→Shared→Prop}
theorem tR {it l:Addr} {its:Array Value} (ne:l≠it) (n:Nat):∀ (i:Nat) (s:Shared) (Q:List Value→Shared→Prop),s.heap.IsListIter it l i→s.heap.IsList l its→i+n≤its.size→
  (∀ h',h'.IsListIter it l (i+n)→Heap.SameBut it s.heap h'→Q ((its.toList.drop i).take n) {s with heap:=h'})→wpAny (model P w) A (draw (.ref it) n) Q E s:=by
 induction n with
 | zero=>
  intro i s Q a _ _ q
  have q0:=q s.heap a (Heap.SameBut.refl ..)
  rw [List.take_zero] at q0
  exact wpAny_pure q0
 | succ n ih=>
  intro i s Q a b le q
  have lt:i<its.size:=by omega
  refine wpAny_bind (m:=pyNext (.ref it)) (wpAny_pyNext_list_item a b (x:=its[i]) (by simp [lt]) fun h1 a1 s1=>?_)
  refine wpAny_bind (wpAny_holding (ih (i+1) _ _ a1 (b.extBut s1.extBut ne) (by omega) fun h2 a2 s2=>?_))
  refine wpAny_pure ?_
  have q2:=q h2 (by rw [Nat.add_comm n 1,← Nat.add_assoc]; exact a2) (s1.trans s2)
  have e:its.toList.drop i=its[i]::its.toList.drop (i+1):=by simp [List.drop_eq_getElem_cons,lt]
  rwa [e,List.take_succ_cons] at q2
theorem m5 {s:Shared} {l:Addr} {its:Array Value} {ts:List (Bool×(Value→Sem Unit))} {Q:Unit→Shared→Prop} (hh:A.handled=none) (hl:s.heap.IsList l its) (hn:ts.length=its.size) (hs:ts.findIdx? (·.1)=none)
  (q:∀ h',Heap.ExtBut s.heap.objs.size s.heap h'→wpAny (model P w) A (assignInOrder (ts.map (·.2)) its.toList) Q E {s with heap:=h'}):wpAny (model P w) A (unpack (.ref l) ts) Q E s:=by
 have ne:l≠s.heap.objs.size:=by
  obtain⟨o,e,_⟩:=hl
  exact Nat.ne_of_lt (Heap.lt_size e)
 unfold unpack
 rw [hs,hn]
 refine wpAny_bind (wpAny_holding ?_)
 unfold unpackItems notIterableAtAll
 refine wpAny_bind (wpAny_bind (wpAny_specialOf hl.typeIs slot_list_iter.lookup (wpAny_pure ?_)))
 simp only [Bool.false_eq_true,if_false]
 refine wpAny_bind (wpAny_holding (wpAny_pyIter_list hl ?_))
 refine wpAny_bind (wpAny_holding (tR ne its.size 0 _ _ ⟨_,Heap.get?_push_size _ rfl,rfl,rfl⟩ (hl.push _) (by omega) fun h1 a1 s1=>?_))
 have all:(its.toList.drop 0).take its.size=its.toList:=by simp [List.take_of_length_le]
 rw [all,if_neg (by simp)]
 refine wpAny_bind (wpAny_holding (wpAny_pyNext_list_end hh a1 ((hl.push _).extBut s1.extBut ne) (by simp) fun h2 e2=>?_))
 simp only [Option.isSome_none,Bool.false_eq_true,if_false]
 exact wpAny_pure (q h2 fun b o nb e=>e2 b o nb (s1.extBut b o nb (Heap.get?_push_of_some _ e)))
end
section
variable {X:Cx} {pos:Pos}
def y8 (K:PySem.W.Frag) (n:Nat) (t:TGs):TG:=fun v σ H Q=>∃ a xs,v=.ref a∧(SqL K H a xs∨SqT K H a xs)∧xs.length=n∧t xs σ H Q
theorem nH {es:List Expr} {k:Nat} {t:TGs} {n:Nat} (hc:X.calm=true) (h:PGs X es t) (hn:(assignEach es X.env).length=n:=by rfl) (hst:(assignEach es X.env).findIdx? (·.1)=none:=by rfl):PG X (.Tuple es k pos) (y8 X.K n t):=by
 intro pins s σ H v u Q I r hw
 obtain⟨a,xs,rfl,hq | hq,hl,hw⟩:=hw
 ·cases r
  obtain⟨its,rv,pl,hz⟩:=I.list hq
  rw [assign_Tuple]
  refine wpAny_bind (wpAny_standAt (m5 (I.ok.hd hc) pl.isList (by simp [hn,← hl,rv.length]) hst fun h' hx=>?_))
  have I1:Inv X pins σ H {s with heap:=h'}:=I.kept (t':=s.toks) fun b o e=>hx b o (Nat.ne_of_lt (Heap.lt_size e)) e
  exact h pins _ σ H xs _ Q I1 (by simpa using rv) hw
 ·exact ja hc h hn hst pins s σ H _ u Q I r ⟨a,xs,rfl,hq,hl,hw⟩
end
structure iB (X:Cx) (pins:List (Addr×Obj)) (H:Hp) (b:Addr):Prop where
 un:H b=none
 new:b∈X.ex∨X.s₀.heap.get? b=none
 loc:b≠X.env.locals
 cel:∀ x c,X.env.cells.lookup x=some c→c≠b
 pin:∀ p∈X.pn++pins,p.1≠b
section
variable {X:Cx} {pins:List (Addr×Obj)} {σ:List (Option V)} {H:Hp} {s:Shared} {h':Heap}
theorem Inv.fly {t':Nat} {S:List Addr} (I:Inv X pins σ H s) (hS:∀ b∈S,iB X pins H b) (kp:∀ b o,s.heap.get? b=some o→b∉S→b∉frs X.stack→h'.get? b=some o)
  (sl:∀ b o,s.heap.get? b=some o→b∈frs X.stack→∃ w,h'.get? b=some {o with slots:=w}):Inv X pins σ H {s with heap:=h',toks:=t'}:=by
 have nS:∀ b u,H b=some u→b∉S:=fun b u e z=>by rw [(hS b z).un] at e; cases e
 have nF:∀ b u,H b=some u→b∉frs X.stack:=fun b u e z=>by rw [I.stkFree b z] at e; cases e
 have neL:∀ b o,X.s₀.heap.get? b=some o→b≠X.env.locals:=fun b o e=>Nat.ne_of_lt (Nat.lt_of_lt_of_le (Heap.lt_size e) I.ok.above)
 have neC:∀ b o,X.s₀.heap.get? b=some o→b∉X.ex→b∉S:=fun b o e hx hb=>by
  rcases(hS b hb).new with z | z
  ·exact hx z
  ·rw [z] at e; cases e
 have stkL:∀ b,b∈frs X.stack→b≠X.env.locals→b∈X.fs:=fun b hb n=>(List.mem_cons.mp (I.stkSub b hb)).elim (fun z=>absurd z n) id
 have any:∀ b o,s.heap.get? b=some o→b∉S→∃ w,h'.get? b=some {o with slots:=w}:=fun b o e n=>by
  by_cases hb:b∈frs X.stack
  ·exact sl b o e hb
  ·exact⟨o.slots,kp b o e n hb⟩
 have cellK:∀ x c,X.env.cells.lookup x=some c→∀ v,s.heap.IsCell c v→h'.IsCell c v:=fun x c e v ⟨o,ho,hd⟩=>by
  obtain⟨w,q⟩:=any c o ho fun z=>(hS c z).cel x c e rfl
  exact⟨_,q,hd⟩
 refine⟨I.ok,I.os,I.bare,⟨fun b o e n hb hx=>?_,fun b o e n hb hx=>?_,fun b o e n hx=>I.base.free b o e n hx,fun b o e hx=>?_,I.base.tups,I.base.frzs,I.base.tbls⟩,?_,fun x c e=>?_,I.free,I.freeC,fun p hp=>?_,fun b u e=>?_,I.len⟩
 ·exact kp b o (I.base.keep b o e n hb hx) (neC b o e hx) fun z=>hb (stkL b z (neL b o e))
 ·obtain⟨w,e1⟩:=I.base.slot b o e n hb hx
  obtain⟨w',e2⟩:=any b _ e1 (neC b o e hx)
  exact⟨w',e2⟩
 ·obtain⟨o',e1⟩:=I.base.there b o e hx
  obtain⟨w,e2⟩:=any b o' e1 (neC b o e hx)
  exact⟨_,e2⟩
 ·obtain⟨m,⟨o,es,ep,ho,r⟩,hl⟩:=I.loc
  obtain⟨w,q⟩:=any _ o ho fun z=>(hS _ z).loc rfl
  refine⟨m,⟨_,es,ep,q,r⟩,fun i x v e1 e2 e3=>?_⟩
  obtain⟨u,r,l⟩:=hl i x v e1 e2 e3
  refine⟨u,r,?_⟩
  rcases l with l | ⟨k,c,e,z⟩
  ·exact .inl l
  ·exact .inr ⟨k,c,e,cellK x c e _ z⟩
 ·obtain⟨v,z⟩:=I.cell x c e
  exact⟨v,cellK x c e v z⟩
 ·obtain⟨e,n,ne,nf,d⟩:=I.pin p hp
  exact⟨kp p.1 p.2 e (fun z=>(hS p.1 z).pin p hp rfl) fun z=>nf (stkL _ z ne),n,ne,nf,d⟩
 ·refine(I.hok b u e).stay (fun c v hc q=>?_) (fun _ q=>q) fun _ _ q=>q
  rcases hc with z | z
  ·subst z; exact kp _ v q (nS _ u e) (nF _ u e)
  ·exact kp c v q (nS c _ z) (nF c _ z)
end
inductive Exc (h:Heap) (a:Addr) (cls:Value) (dx:Option Addr):Option Value→List Addr→Prop where
 | made {oe:Obj} {vs:Array Value} {a0:Value}:h.get? a=some oe→oe.cls=cls→oe.dict=dx→oe.data=.fields vs→vs[0]? = some a0→vs[1]? = some .none→Exc h a cls dx none [a]
 | ent {oe oT:Obj} {vs ts:Array Value} {a0 fl:Value} {T:Addr}:h.get? a=some oe→oe.cls=cls→oe.dict=dx→oe.data=.fields vs→vs[0]? = some a0→vs[1]? = some (.ref T)→T≠a→h.get? T=some oT→oT.data=.fields ts→ts[3]? = some fl→Exc h a cls dx (some fl) [a,T]
def XEk (p:Option Value→Addr→Prop) (X:Cx) (E:XK):Value→Shared→Prop:=fun e s=>∃ (a L:Addr) (cls:Value) (dx:Option Addr) (σ:St) (H:Hp) (fl:Option Value) (S:List Addr) (env0:Env) (rest:List Env),e=.ref a∧X.stack=env0::rest∧env0.frame=some L∧X.env.frame=some L∧
 Inv X [] σ H s∧Exc s.heap a cls dx fl S∧p fl L∧(∀ b∈S,iB X [] H b)∧E cls dx H
def XE:Cx→XK→Value→Shared→Prop:=XEk fun _ _=>True
def di:Cx→XK→Value→Shared→Prop:=XEk fun fl L=>fl=some (rawInt L)
def ub:Cx→XK→Value→Shared→Prop:=XEk fun fl L=>fl=some .none
theorem XEk.imp {p q:Option Value→Addr→Prop} {X:Cx} {E:XK} {e:Value} {s:Shared} (h:XEk p X E e s) (k:∀ fl L,p fl L→q fl L):XEk q X E e s:=by
 obtain⟨a,L,cls,dx,σ,H,fl,S,env0,rest,h1,h2,h3,h4,h5,h6,h7,h8⟩:=h
 exact⟨a,L,cls,dx,σ,H,fl,S,env0,rest,h1,h2,h3,h4,h5,h6,k _ _ h7,h8⟩
theorem di.xe {X:Cx} {E:XK} {e:Value} {s:Shared} (h:di X E e s):XE X E e s:=XEk.imp h fun _ _ _=>trivial
theorem iD {e:Value} {env env':Env} (h:env.frame=env'.frame):noteFrame e env=noteFrame e env':=by
 unfold noteFrame PySem.frameOf
 rw [h]
section
variable {P:Program} {w:World} {H:Hp} {h:Heap} {a:Addr} {o:HO}
theorem bh.there (x:bh P w H h a o):∃ ob,h.get? a=some ob:=by
 induction o with
 | lst xs=>obtain⟨_,_,_,_,e⟩:=x; exact⟨_,e⟩
 | tup xs=>obtain⟨_,_,_,o,e,_⟩:=x; exact⟨_,e⟩
 | dK kvs=>obtain⟨_,_,_,_,o,_,_,e,_⟩:=x; exact⟨_,e⟩
 | dT kvs=>obtain⟨_,_,_,_,o,_,_,e,_⟩:=x; exact⟨_,e⟩
 | set S n=>obtain⟨o,_,_,_,e,_⟩:=x; exact⟨_,e⟩
 | ins C dx fs=>obtain⟨_,_,_,e,_⟩:=x; exact⟨_,e⟩
 | own y=>exact x
 | xd fs=>obtain⟨_,⟨o,_,_,e,_⟩,_⟩:=x; exact⟨_,e⟩
 | met f y=>exact⟨_,x⟩
 | rng lo hi=>obtain⟨_,_,_,e⟩:=x; exact⟨_,e⟩
 | frz o u ih=>exact⟨_,x.1⟩
 | tbl ps=>exact⟨_,x⟩
 | ext φ=>exact x.2.1
end
section
variable {X:Cx} {pins:List (Addr×Obj)} {σ:List (Option V)} {H:Hp} {s:Shared} {h':Heap}
theorem Inv.loose {b:Addr} (I:Inv X pins σ H s) (e:s.heap.get? b=none):iB X pins H b:=by
 have no:∀ {c:Addr} {o:Obj},s.heap.get? c=some o→c≠b:=fun q z=>by rw [z,e] at q; cases q
 refine⟨?_,?_,?_,fun x c hc=>?_,fun p hp=>no (I.pin p hp).1⟩
 ·cases q:H b with
  | none=>rfl
  | some o=>
   obtain⟨ob,z⟩:=bh.there (I.hok b o q)
   exact absurd rfl (no z)
 ·by_cases hx:b∈X.ex
  ·exact .inl hx
  ·refine .inr ?_
   cases q:X.s₀.heap.get? b with
   | none=>rfl
   | some o=>
    obtain⟨o',z⟩:=I.base.there b o q hx
    exact absurd rfl (no z)
 ·obtain⟨m,⟨o,_,_,ho,_⟩,_⟩:=I.loc
  exact(no ho).symm
 ·obtain⟨v,o,ho,_⟩:=I.cell x c hc
  exact no ho
theorem za {M:Model} {A:Around} {EE:Value→Shared→Prop} {s:Shared} {g:Heap} {ev:Env} {outer:List Env} {L a:Addr} {oe:Obj} {vs:Array Value} {head:Value} {nx:Bool} {Q:Unit→Shared→Prop}
  (hfr:A.frames=some (ev::outer)) (hl:s.heap.FunFrames g (ev::outer)) (hf:ev.frame=some L) (he:s.heap.get? a=some oe) (hd:oe.data=.fields vs) (hz:1<vs.size)
  (k:∀ (h':Heap) (T:Addr) (ts:Array Value),(∀ b o,s.heap.get? b=some o→b≠a→b∉frs (ev::outer)→h'.get? b=some o)→(∀ b o,s.heap.get? b=some o→b∈frs (ev::outer)→∃ w,h'.get? b=some {o with slots:=w})→
   h'.get? a=some (Obj.mapFields (·.setIfInBounds 1 (.ref T)) oe)→s.heap.get? T=none→h'.get? T=some {cls:=.type "traceback",data:=.fields ts}→ts[3]? = some (rawInt L)→Q () {s with heap:=h'}) :
  wpAny M A (do let f ← frameOf ev; let pl ← entryPlaceOf L nx; let b ← EntryCells.newEntry head f .none (rawInt L) .none pl; setField (.ref a) 1 b) Q EE s:=by
 have na:a∉frs (ev::outer):=fun m=>by
  obtain⟨_,o,q,nf⟩:=hl.mem m
  rw [he] at q
  cases q
  exact nf vs hd
 refine wpAny_bind (wpAny_frameOf_fun hfr hl hf fun g1 sl=>wpAny_bind (wpAny_entryPlaceOf fun pl ip=>?_))
 unfold EntryCells.newEntry newFields
 refine wpAny_bind (wpAny_newObj_type ?_ (ip.sizeOk5 _ _ _ _ _))
 have e1:g1.get? a=some oe:=by rw [sl.2.1 a na]; exact he
 refine wpAny_setField (Heap.get?_push_of_some _ e1) hd hz ?_
 have lt:=Heap.lt_size e1
 have oth:∀ (u:Obj) (b:Addr),b≠a→((g1.push u).update a (Obj.mapFields (·.setIfInBounds 1 (Value.ref g1.objs.size)))).get? b=(g1.push u).get? b:=fun u b n=>Heap.get?_update_other _ _ (Ne.symm n)
 have nw:s.heap.get? g1.objs.size=none:=by
  cases q:s.heap.get? g1.objs.size with
  | none=>rfl
  | some o=>
   obtain⟨w,z⟩:=sl.2.2 _ o q
   exact absurd (Heap.lt_size z) (Nat.lt_irrefl _)
 refine k _ g1.objs.size _ (fun b o q n nf=>?_) (fun b o q m=>?_) (Heap.get?_update_self _ (Heap.get?_push_of_some _ e1) (Obj.isFreed_of_fields (Obj.data_mapFields hd _))) nw ((oth _ _ (Nat.ne_of_gt lt)).trans (Heap.get?_push_size _ rfl)) ?_
 ·rw [oth _ _ n]
  exact Heap.get?_push_of_some _ ((sl.2.1 b nf).trans q)
 ·obtain⟨w,z⟩:=sl.2.2 b o q
  exact⟨w,by rw [oth _ _ fun y=>na (y▸m)]; exact Heap.get?_push_of_some _ z⟩
 ·first
   | (simp; done)
   | (rcases ip with rfl | ⟨_,_,_,_,_,_,_,rfl⟩ <;> simp)
theorem XE.note {E:XK} {e:Value} {EE:Value→Shared→Prop} (h:XE X E e s):wpAny (model X.prog X.w) X.A (noteFrame e X.env) (fun _ s'=>di X E e s') EE s:=by
 obtain⟨a,L,cls,dx,σ,H,fl,S,env0,rest,rfl,hs,hf0,hf,I,ex,hp,hS,hE⟩:=h
 rw [iD (hf.trans hf0.symm)]
 have hfr:X.A.frames=some (env0::rest):=by rw [I.ok.frames,hs]
 have put:∀ {s1:Shared} {oe:Obj} {vs:Array Value} {a0 head:Value} {nx:Bool},Inv X [] σ H s1→a∈S→s1.heap.get? a=some oe→oe.cls=cls→oe.dict=dx→oe.data=.fields vs→1<vs.size→vs[0]? = some a0→
   wpAny (model X.prog X.w) X.A (do let f ← frameOf env0; let pl ← entryPlaceOf L nx; let b ← EntryCells.newEntry head f .none (rawInt L) .none pl; setField (.ref a) 1 b) (fun _ s'=>di X E (.ref a) s') EE s1:=by
  intro s1 oe vs a0 head nx I1 ha he hc hx hd hz h0
  have hl:s1.heap.FunFrames X.base (env0::rest):=by rw [← hs]; exact I1.stack
  refine za hfr hl hf0 he hd hz fun h' T ts kp sl e1 nw eT e3=>?_
  rw [← hs] at kp sl
  have I2:Inv X [] σ H {s1 with heap:=h'}:=I1.fly (t':=s1.toks) hS (fun b o q n nf=>kp b o q (fun z=>n (z▸ha)) nf) sl
  have nT:T≠a:=fun z=>by rw [z,he] at nw; cases nw
  exact⟨a,L,cls,dx,σ,H,_,[a,T],env0,rest,rfl,hs,hf0,hf,I2,.ent e1 ((Obj.cls_mapFields _ _).trans hc) (by rw [← hx]; unfold Obj.mapFields; split <;> rfl) (Obj.data_mapFields hd _) (by rw [Array.getElem?_setIfInBounds_ne (by decide)]; exact h0) (by simp [hz]) nT eT rfl e3,rfl,fun b hb=>by
   rcases List.mem_cons.mp hb with rfl | hb
   ·exact hS _ ha
   ·rw [List.mem_singleton.mp hb]; exact I1.loose nw,hE⟩
 cases ex with
 | made he hc hx hd h0 h1=>
  unfold noteFrame
  simp only [hf0]
  refine wpAny_bind (wpAny_field he hd h1 ?_)
  rw [if_neg (by decide)]
  exact put I (by simp) he hc hx hd (Array.getElem?_eq_some_iff.mp h1).1 h0
 | @ent oe oT vs ts a0 fl T he hc hx hd h0 h1 hTa hT hdT h3=>
  by_cases hb:(fl==rawInt L)=true
  ·obtain rfl:=eq_of_beq hb
   exact wpAny_noteFrame_againW (base:=PySem.W.hideAll s.heap [T]) hf0 ⟨oe,vs,T,oT,ts,he,⟨hc,h0⟩,hd,h1,PySem.W.hideAll_none _ (by simp),hTa,hT,hdT,h3⟩ ⟨a,L,cls,dx,σ,H,_,_,env0,rest,rfl,hs,hf0,hf,I,.ent he hc hx hd h0 h1 hTa hT hdT h3,rfl,hS,hE⟩
  ·have h3s:3<ts.size:=(Array.getElem?_eq_some_iff.mp h3).1
   unfold noteFrame
   simp only [hf0]
   refine wpAny_bind (wpAny_field he hd h1 ?_)
   rw [if_pos (show (Value.ref T != Value.none)=true from by simp)]
   refine wpAny_bind (wpAny_field hT hdT h3 ?_)
   rw [if_neg hb]
   refine wpAny_bind (wpAny_setField hT hdT h3s ?_)
   have other:∀ b,b≠T→(s.heap.update T (Obj.mapFields (·.setIfInBounds 3 Value.none))).get? b=s.heap.get? b:=fun b n=>Heap.get?_update_other _ _ (Ne.symm n)
   have nT:∀ b∈frs X.stack,b≠T:=fun b hb z=>by
    obtain⟨_,o',e',nf⟩:=I.stack.mem hb
    rw [z,hT] at e'; cases e'
    exact nf ts hdT
   have I1:=I.fly (t':=s.toks) (h':=s.heap.update T (Obj.mapFields (·.setIfInBounds 3 Value.none))) hS (fun b o q n _=>by rw [other b (fun z=>n (by simp [z]))]; exact q) fun b o q hb=>⟨o.slots,by rw [other b (nT b hb)]; exact q⟩
   exact put I1 (by simp) ((other a (Ne.symm hTa)).trans he) hc hx hd (Array.getElem?_eq_some_iff.mp h1).1 h0
end
section
variable {X:Cx} {E:XK} {e:Value} {s:Shared} {EE:Value→Shared→Prop} {M:Model}
theorem XEk.setFl {p:Option Value→Addr→Prop} {A:Around} {f:Option Addr} (h:XEk p X E e s) (hp:∀ fl L,p fl L→fl≠none) :
  wpAny M A (setFlight e f) (fun _ s'=>XEk (fun fl _=>fl=some (f.elim Value.none fun f=>rawInt f)) X E e s') EE s:=by
 obtain⟨a,L,cls,dx,σ,H,fl,S,env0,rest,rfl,hs,hf0,hf,I,ex,hp',hS,hE⟩:=h
 cases ex with
 | made=>exact absurd rfl (hp _ _ hp')
 | @ent oe oT vs ts a0 fl T he hc hx hd h0 h1 hTa hT hdT h3=>
  have h3s:3<ts.size:=(Array.getElem?_eq_some_iff.mp h3).1
  unfold setFlight
  refine wpAny_bind (wpAny_field he hd h1 ?_)
  rw [if_pos (show (Value.ref T != Value.none)=true from by simp)]
  refine wpAny_setField hT hdT h3s ?_
  have other:∀ b,b≠T→(s.heap.update T (Obj.mapFields (·.setIfInBounds 3 (f.elim Value.none fun f=>rawInt f)))).get? b=s.heap.get? b:=fun b n=>Heap.get?_update_other _ _ (Ne.symm n)
  have self:=Heap.get?_update_self (Obj.mapFields (·.setIfInBounds 3 (f.elim Value.none fun f=>rawInt f))) hT (Obj.isFreed_of_fields (Obj.data_mapFields hdT _))
  have I':=I.fly (t':=s.toks) (h':=s.heap.update T (Obj.mapFields (·.setIfInBounds 3 (f.elim Value.none fun f=>rawInt f)))) hS (fun b o q n _=>by rw [other b (fun z=>n (by simp [z]))]; exact q) fun b o q hb=>by
   have n:b≠T:=fun z=>by
    obtain⟨_,o',e',nf⟩:=I.stack.mem hb
    rw [z,hT] at e'; cases e'
    exact nf ts hdT
   exact⟨o.slots,by rw [other b n]; exact q⟩
  exact⟨a,L,cls,dx,σ,H,_,_,env0,rest,rfl,hs,hf0,hf,I',.ent ((other a (Ne.symm hTa)).trans he) hc hx hd h0 h1 hTa self (Obj.data_mapFields hdT _) (by simp [h3s]),rfl,hS,hE⟩
theorem di.land {A:Around} (h:di X E e s):wpAny M A (setFlight e none) (fun _ s'=>ub X E e s') EE s:=
 wpAny_mono (XEk.setFl (f:=none) h fun fl L z=>by rw [z]; simp) (fun _ _ z=>z) fun _ _ z=>z
theorem ub.land {A:Around} (h:ub X E e s):wpAny M A (setFlight e none) (fun _ s'=>ub X E e s') EE s:=
 wpAny_mono (XEk.setFl (f:=none) h fun fl L z=>by rw [z]; simp) (fun _ _ z=>z) fun _ _ z=>z
theorem di.hold {A:Around} {env:Env} (hfr:env.frame=X.env.frame) (h:di X E e s):wpAny M A (setFlight e env.frame) (fun _ s'=>di X E e s') EE s:=by
 obtain⟨a,L,_,_,_,_,_,_,_,_,_,_,_,hf,_⟩:=id h
 rw [hfr,hf]
 refine wpAny_mono (XEk.setFl (f:=some L) h fun fl L z=>by rw [z]; simp) (fun _ s' z=>?_) fun _ _ z=>z
 obtain⟨a',L',cls,dx,σ,H,fl,S,env0,rest,h1,h2,h3,h4,h5,h6,h7,h8⟩:=z
 obtain rfl:L=L':=Option.some.inj (hf.symm.trans h4)
 exact⟨a',L,cls,dx,σ,H,fl,S,env0,rest,h1,h2,h3,h4,h5,h6,h7,h8⟩
theorem di.hasTb {Q:Value→Shared→Prop} {A:Around} (h:di X E e s) (q:∀ v,(v==Value.none)=false→Q v s):wpAny M A (field e 1) Q EE s:=by
 obtain⟨a,L,cls,dx,σ,H,fl,S,env0,rest,rfl,hs,hf0,hf,I,ex,hp',hS,hE⟩:=h
 cases ex with
 | made=>cases hp'
 | ent he hc hx hd h0 h1=>exact wpAny_field he hd h1 (q _ (by simp))
theorem di.back {A:Around} {env:Env} (hfr:env.frame=X.env.frame) (h:di X E e s):cameBackBy M A env (XE X E) e s:=by
 unfold cameBackBy
 refine wpAny_bind (h.hasTb fun v hv=>?_)
 rw [hv]
 simp only [Bool.false_eq_true,if_false]
 exact wpAny_mono (h.hold hfr) (fun _ _ z=>z.xe) fun _ _ z=>z
theorem di.passAny {α:Type} {A:Around} {env:Env} {what:String} {Q:α→Shared→Prop} (h:di X E e s) (k:∀ s',XE X E e s'→EE e s'):wpAny M A (PySem.passOn what e env:Sem α) Q EE s:=by
 unfold PySem.passOn
 refine wpAny_bind (h.hasTb fun v hv=>?_)
 rw [hv]
 simp only [Bool.false_eq_true,if_false]
 exact wpAny_bind (wpAny_mono (XEk.setFl (f:=env.frame) h fun fl L z=>by rw [z]; simp) (fun _ s' z=>wpAny_throw (k s' (XEk.imp z fun _ _ _=>trivial))) fun _ _ z=>z)
theorem dZ:PassesOwn (model X.prog X.w) X.A X.env (XE X E):=fun e s h=>by
 unfold notedBy
 exact wpAny_mono h.note (fun _ s' z=>z.back rfl) fun _ _ z=>z
theorem XE.leave (h:XE X E e s):wpAny (model X.prog X.w) X.A (leaving X.env e) (fun _ s'=>ub X E e s') EE s:=by
 unfold leaving
 exact wpAny_bind (wpAny_mono h.note (fun _ s' z=>z.land) fun _ _ z=>z)
end
def CX1 (P:Program) (w:World):CXT:=fun outer H s E e s'=>∃ (a:Addr) (cls:Value) (dx:Option Addr) (H':Hp) (S:List Addr),e=.ref a∧s'.os=s.os∧AllBare s'.gens∧Un (frs outer) [] H H' s.heap s'.heap∧HOk P w H' s'.heap∧Exc s'.heap a cls dx (some .none) S∧(∀ b∈S,H' b=none∧s.heap.get? b=none)∧E cls dx H'
def eA (X:Cx):Prop:=∃ (L:Addr) (env0:Env) (rest:List Env),X.stack=env0::rest∧env0.frame=some L∧X.env.frame=some L
abbrev Cx.exc (X:Cx) (E:XK):Cx:=X.wish (XE X E)
theorem pi {X:Cx} {E:XK} (fr:eA X):gm (CX1 X.prog X.w) (X.exc E) E:=by
 intro pins σ H s e s' I h
 obtain⟨a,cls,dx,H',S,rfl,ho,hb,un,hok,ex,hS,hE⟩:=h
 obtain⟨L,env0,rest,h1,h2,h3⟩:=fr
 have I0:Inv X pins σ H s:=I.unwish
 have I1:Inv X [] σ H s:=I0.pins_of fun p hp=>by simp at hp
 have I2:Inv X [] σ H' s':=I1.call' (ch:=[]) ho un hok hb fun b z=>by simp at z
 refine⟨a,L,cls,dx,σ,H',_,S,env0,rest,rfl,h1,h2,h3,I2,ex,trivial,fun b z=>?_,hE⟩
 obtain⟨u,n⟩:=hS b z
 obtain⟨_,l2,l3,l4,l5⟩:=I1.loose n
 exact⟨u,l2,l3,l4,l5⟩
theorem bT {CX:CXT} {P:Program} {w:World} {K:PySem.W.Frag} {mg:Str→Option Value} {base:Heap} {N:List Str} {qual:Str} {scope:Scope} {f:Addr} {cd:Value} {A:Around} {outer:List Env} {s:Shared} {H:Hp} {E:XK}:eA (jr CX P w K mg base N qual scope f cd A outer s H E):=⟨_,_,_,rfl,rfl,rfl⟩
theorem Fun.okE {P:Program} {w:World} {K:PySem.W.Frag} {mg:Str→Option Value} {base:Heap} {x qual:Str} {st:Stmt} {f:Addr} {fd:FuncData} {N ps:List Str} {k:Nat} {sp:Sp} (F:Fun K x qual st f fd) (S:aB N ps (ah st)) (len:∀ vs H Q E,sp vs H Q E→vs.length=ps.length)
  (hbody:∀ (cdv:Value) (A:Around) (outer:List Env) (s:Shared) (H:Hp) (vs:List V) (Q:VK) (E:XK),bN k (A.deeper (envOfC qual (ah st) s.heap.objs.size f cdv))→sp vs H Q E→
   ∃ t,PSs ((jr (CX1 P w) P w K mg base N qual (ah st) f cdv A outer s H E).exc E) (b7 st) t∧t {nx:=fun _ H'=>Q .non H',rt:=Q} (cR N vs) H):dk P w K mg base (CX1 P w) (k+1) f fd ps sp:=by
 obtain⟨oc,od,kV,doc,pm,an,cdv,ct,osl,rfl,lk,hcd⟩:=F.ex
 refine tK lk hcd S len fun A outer s H vs Q E hr hsp=>?_
 obtain⟨t,h,q⟩:=hbody cdv A outer s H vs Q E hr hsp
 refine⟨t,fun pins s1 σ H1 D I hw=>?_,q⟩
 refine wpAny_mono (h pins s1 σ H1 D (I.wish _) hw) (fun fl s2 z=>z.unwish) fun e s2 z=>?_
 refine wpAny_mono z.leave (fun _ s3 z3=>?_) fun _ _ z=>z
 obtain⟨a,L,cls,dx,σ',H',fl,S',env0,rest,rfl,hs,hf0,hf,I',ex,hp',hS,hE⟩:=z3
 obtain rfl:fl=some .none:=hp'
 refine⟨a,cls,dx,H',S',rfl,I'.os,I'.bare,I'.base,I'.hok,ex,fun b hb=>⟨(hS b hb).un,?_⟩,hE⟩
 rcases(hS b hb).new with z | z
 ·exact absurd (show b∈([]:List Addr) from z) (by simp)
 ·exact z
abbrev sF:List Value:=[.type "ValueError",.type "Exception",.type "BaseException",.type "object"]
def ll (K:PySem.W.Frag) (mg:Str→Option Value) (x:Str) (C:Addr):Prop:=∀ h:Heap,K.In h→OwnCls x C sF "ValueError.__new__" mg h
def wl (C:Addr) (E:XK) (t:TA):TS:=fun _ σ H=>t σ H fun vs H1=>vs.length≤sizeLine∧E (.ref C) none H1
theorem i6 {X:Cx} {E:XK} {x:Str} {C:Addr} {np cpos pos:Pos} {e:Expr} {es:List Expr} {t:TA} (fr:eA X) (hc:X.calm=true) (O:ll X.K X.mg x C) (hg:Gl X x) (ha:PA (X.exc E) (e::es) t)
  (hdb:(x==("__debug__":Str))=false:=by decide) (he:starEach (e::es) X.env=(false,eval e X.env)::starEach es X.env:=by rfl) (hpl:(backTo cpos (starEach es X.env)).any (·.1)=false:=by rfl) :
  PS (X.exc E) (.Raise (some (.Call (.Name x np) (e::es) [] cpos)) none pos) (wl C E t):=by
 intro pins s σ H D I h
 have O0:=O X.base I.ok.mod.kin
 obtain⟨bm,N,nm,q,bs,hdct,sn,sub,ab,col,dd,k0,k1,k2,k3,k5,mN,hC,hN,hni,T⟩:=O0.obj
 refine wpAny_Raise_call_subU (C:=C) (bm:=bm) (nm:=nm) (q:=q) (N:=N) (bs:=bs) (hdct:=hdct) (sn:=sn) (sub:=sub) (ab:=ab) (col:=col) (dd:=dd) (k0:=k0) (k1:=k1) (k2:=k2) (k3:=k3) (k5:=k5) (mN:=mN)
  PySem.F.excBase_ValueError (by decide +kernel) PySem.F.excBase_ValueError (T.hasType (by decide +kernel)) (I.ok.hd hc) (by rw [show (X.exc E).env=X.env from rfl,he]; show (false||(backTo cpos (starEach es X.env)).any (·.1))=false; rw [hpl]; rfl) hni (fP I hg O0.bound ⟨rfl,?_⟩ hdb)
 have h1:=ha cpos pins s σ H _ I h
 rw [show (X.exc E).env=X.env from rfl,he] at h1 ⊢
 refine Calls.evalArgs_plain (wpAny_mono h1 (fun vs s2 z=>?_) fun _ _ z=>z)
 obtain⟨ws,H2,I2,rv,hl,hE⟩:=z
 have hk:∀ b o,X.base.get? b=some o→s2.heap.get? b=some o:=I2.bk
 refine⟨rfl,by rw [← rv.length]; exact hl,?_,?_,?_,fun h' a M=>?_⟩
 ·exact hk _ _ hC
 ·exact hN.keeps hk
 ·exact T.keeps hk
 ·obtain⟨tt,g1,g2,g3⟩:=M.there
  obtain⟨L,env0,rest,e1,e2,e3⟩:=fr
  have I3:Inv X [] σ H2 s2:=I2.unwish.pins_of fun p hp=>by simp at hp
  exact⟨a,L,.ref C,none,σ,H2,none,[a],env0,rest,rfl,e1,e2,e3,I3.kept (t':=s2.toks) M.keeps,.made g1 rfl rfl rfl rfl rfl,trivial,fun b hb=>by rw [List.mem_singleton.mp hb]; exact I3.loose M.new,hE⟩
section
variable {X:Cx} {n:Nat} {N':List Str} {scope:Scope} {elt tg iter:Expr} {pos:Pos} {pins:List (Addr×Obj)} {σ:St} {H2:Hp} {s2:Shared} {cl:List (Str×Addr)}
theorem jw {E0:XK} {C:Addr} {fp:List Addr} {x:Value} {s':Shared} (I2:Inv X pins σ H2 s2) (f2:∀ b∈fp,fX X pins H2 b) (fr:eA X) (h:di (ax X N' scope cl C fp s2 H2) E0 x s') :
  ∃ m,s'.heap.Ns C m∧∀ h',Heap.SameBut C s'.heap h'→∀ cenv:Env,cenv.locals=C→wpAny (model X.prog X.w) X.A (PySem.passOn "comprehension.variables-let-go" x cenv:Sem Value) (fun _ _=>False) (XE X E0) {s' with heap:=h'}:=by
 obtain⟨a,L,cls,dx,σ',H',fl,S,env0,rest,rfl,hs,hf0,hf,I',ex,hp,hS,hE⟩:=h
 obtain⟨m,hn,_⟩:=I'.loc
 refine⟨m,hn,fun h' sb cenv hc=>?_⟩
 have I0:Inv X [] σ H2 s2:=I2.pins_of fun p hp=>by simp at hp
 have un:Un (frs X.stack) fp H2 H' s2.heap s'.heap:=I'.base
 have IX:Inv X [] σ H' s':=I0.call' (ch:=fp) I'.os un I'.hok I'.bare fun b hb=>by
  obtain⟨f0,f1,ff,f3,f4,f5⟩:=f2 b hb
  exact⟨f3,f1,f4,fun p hp=>f5 p (List.mem_append_left _ (by simpa using hp))⟩
 have lo:∀ b∈S,iB X [] H' b:=fun b hb=>by
  obtain⟨u,nw,_,_,_⟩:=hS b hb
  rcases nw with z | z
  ·obtain⟨f0,f1,ff,f3,f4,f5⟩:=f2 b z
   exact⟨u,f3.imp id Heap.get?_none_of_le,Ne.symm (Ne.symm f1),f4,fun p hp=>f5 p (List.mem_append_left _ (by simpa using hp))⟩
  ·obtain⟨_,l2,l3,l4,l5⟩:=I0.loose z
   exact⟨u,l2,l3,l4,l5⟩
 have nC:∀ b∈S,b≠C:=fun b hb=>(hS b hb).loc
 have lC:s2.heap.objs.size≤C:=I'.ok.above
 have cL:iB X [] H' C:=by
  obtain⟨_,l2,l3,l4,l5⟩:=I0.loose (Heap.get?_none_of_le lC)
  exact⟨I'.free,l2,l3,l4,l5⟩
 have nF:C∉frs X.stack:=fun z=>by
  obtain⟨_,o,e,_⟩:=I2.stack.mem z
  exact absurd (Heap.lt_size e) (Nat.not_lt.mpr lC)
 have IY:Inv X [] σ H' {s' with heap:=h'}:=IX.fly (t':=s'.toks) (S:=[C]) (fun b hb=>by rw [List.mem_singleton.mp hb]; exact cL) (fun b o q n1 _=>(sb.2 b (fun z=>n1 (by simp [z]))).trans q) fun b o q hb=>⟨o.slots,(sb.2 b (fun z=>nF (by rw [← z]; exact hb))).trans q⟩
 have exY:Exc h' a cls dx fl S:=by
  cases ex with
  | made he hc hx hd h0 h1=>exact .made ((sb.2 a (nC a (by simp))).trans he) hc hx hd h0 h1
  | @ent oe oT vs ts a0 fl T he hc hx hd h0 h1 hTa hT hdT h3=>exact .ent ((sb.2 a (nC a (by simp))).trans he) hc hx hd h0 h1 hTa ((sb.2 T (nC T (by simp))).trans hT) hdT h3
 have hX:di X E0 (.ref a) {s' with heap:=h'}:=⟨a,L,cls,dx,σ,H',fl,S,env0,rest,rfl,hs,hf0,hf,IY,exY,hp,lo,hE⟩
 exact hX.passAny fun s'' z=>z
end
section
variable {κ:Type} [DecidableEq κ]
def iC (kvs:List (κ×V)) (k:κ):Option V:=(kvs.find? fun kv=>decide (kv.1=k)).map (·.2)
theorem iO {p:κ×V} {r:List (κ×V)} {k:κ} (e:p.1=k):iC (p::r) k=some p.2:=by simp [iC,List.find?_cons,e]
theorem iP {p:κ×V} {r:List (κ×V)} {k:κ} (e:¬ p.1=k):iC (p::r) k=iC r k:=by simp [iC,List.find?_cons,e]
theorem fK.isSome_eq {o:Option V} {u:Option Value} (r:fK o u):o.isSome=u.isSome:=by
 cases o with
 | none=>cases u with
  | none=>rfl
  | some _=>exact(show False from r).elim
 | some _=>cases u with
  | none=>exact(show False from r).elim
  | some _=>rfl
theorem KV.val {kvs:List (κ×V)} {vs:List (κ×Value)} (r:KV kvs vs) (k:κ):fK (iC kvs k) (valueAt vs k):=by
 unfold KV at r
 induction r with
 | nil=>exact True.intro
 | @cons p q ps qs h t ih=>
  obtain⟨h1,h2⟩:=h
  by_cases e:p.1=k
  ·have e':q.1=k:=h1.symm.trans e
   have b:valueAt (q::qs) k=some q.2:=by simp [valueAt,List.find?_cons,e']
   rw [iO e,b]; exact h2
  ·have e':¬ q.1=k:=fun z=>e (h1.trans z)
   have b:valueAt (q::qs) k=valueAt qs k:=by simp [valueAt,List.find?_cons,e']
   rw [iP e,b]; exact ih
end
theorem vV {P:Program} {w:World} {k:Key} {u:Value} (r:aM (kV k) u):(bX P w).is k u=true:=by
 cases k with
 | inl i=>obtain⟨t,e⟩:=(show ∃ t,u=Value.int i t from r); subst e; exact md P w i t
 | inr x=>obtain⟨t,e⟩:=(show ∃ t,u=Value.str x t from r); subst e; exact iy P w x t
theorem jZ {P:Program} {w:World}:∀ {ks:List Key} {us:List Value},aI (ks.map kV) us→ItemsAre (bX P w) ks us
 | [],_,r=>by rw [List.map_nil] at r; cases r; exact .nil
 | k::ks,_,r=>by
  rw [List.map_cons] at r
  cases r with
  | cons h t=>exact .cons (vV h) (jZ t)
abbrev KT (H:Hp):List (List Key×V)→List (List Key×Addr×Value)→Prop:=Paired fun p q=>p.1=q.1∧H q.2.1=some (.tup (p.1.map kV))∧aM p.2 q.2.2
theorem KT.val {H:Hp} {kvs:List (List Key×V)} {xs:List (List Key×Addr×Value)} (r:KT H kvs xs) (k:List Key):fK (iC kvs k) ((atKey xs k).map (·.2)):=by
 induction r with
 | nil=>exact True.intro
 | @cons p q ps qs h t ih=>
  obtain⟨h1,_,h2⟩:=h
  by_cases e:p.1=k
  ·have e':q.1=k:=h1.symm.trans e
   have b:atKey (q::qs) k=some q.2:=by simp [atKey,List.find?_cons,e']
   rw [iO e,b]; exact h2
  ·have e':¬ q.1=k:=fun z=>e (h1.trans z)
   have b:atKey (q::qs) k=atKey qs k:=by simp [atKey,List.find?_cons,e']
   rw [iP e,b]; exact ih
section
variable {P:Program} {w:World} {H:Hp} {h:Heap} {a:Addr}
theorem vS {u:HO} (ok:HOk P w H h) (e:Rd H a u):bh P w H h a u:=e.ok ok
theorem v2 {kvs:List (Key×V)} (ok:HOk P w H h) (e:Rd H a (.dK kvs)):kvs.length≤sizeLine∧(a==sysModules)=false∧∃ vs,KV kvs vs∧h.DictOf (bX P w) a vs:=
 show bh P w H h a (.dK kvs) from vS ok e
theorem sT {ks:List Key} (ok:HOk P w H h) (e:H a=some (.tup (ks.map kV))):(tupleKind (bX P w)).is h ks a:=by
 obtain⟨_,its,r,o,h1,h2,n,h3⟩:=(show bh P w H h a (.tup (ks.map kV)) from ok a _ e)
 exact⟨o,its.toArray,n,h1,h2,h3,by simpa using jZ r⟩
theorem vZ {kvs:List (List Key×V)} (ok:HOk P w H h) (e:Rd H a (.dT kvs)):kvs.length≤sizeLine∧(a==sysModules)=false∧
  ∃ xs,KT H kvs xs∧h.DictOfH (tupleKind (bX P w)) a xs:=by
 obtain⟨z,y,xs,r,o,es,ep,h1,h2,h3,h4,h5⟩:=(show bh P w H h a (.dT kvs) from vS ok e)
 refine⟨z,y,xs,r,o,es,ep,h1,h2,h3,h4,fun x hx=>?_,h5⟩
 have all:∀ {l:List (List Key×V)} {m:List (List Key×Addr×Value)},KT H l m→∀ x∈m,(tupleKind (bX P w)).is h x.1 x.2.1:=by
  intro l m q
  induction q with
  | nil=>intro x hx; exact nomatch hx
  | @cons p q ps qs hq t ih=>
   intro x hx
   rcases List.mem_cons.mp hx with e | hx
   ·subst e
    exact sT ok (by rw [← hq.1]; exact hq.2.1)
   ·exact ih x hx
 exact all r x hx
end
def lm (H:Hp) (a:Addr) (y:V) (r:Option V):Prop:=
 (∃ kvs k,Rd H a (.dK kvs)∧y=kV k∧r=iC kvs k)∨∃ kvs k b,Rd H a (.dT kvs)∧y=.ref b∧H b=some (.tup (k.map kV))∧r=iC kvs k
theorem lm.k {H:Hp} {a:Addr} {kvs:List (Key×V)} {k:Key} (e:H a=some (.dK kvs)):lm H a (kV k) (iC kvs k):=.inl ⟨kvs,k,.inl e,rfl,rfl⟩
section
variable {X:Cx} {pins:List (Addr×Obj)} {σ:St} {H:Hp} {s:Shared} {a:Addr} {y v:V} {u r:Value} {o:Option V} {A:Around} {E:Value→Shared→Prop}
theorem Inv.big (I:Inv X pins σ H s):sysModules<s.heap.objs.size:=by
 have h:mainGlobals<s.heap.objs.size:=(I.mod.glob.keeps I.bk).lt
 exact Nat.lt_trans (by decide) h
theorem qH {Q:Value→Shared→Prop} (hu:A.units+1<cLine) (I:Inv X pins σ H s) (g:lm H a y (some v)) (ry:aM y u) (h:∀ w' s',Inv X pins σ H s'→aM v w'→Q w' s') :
  wpAny (model X.prog X.w) A (getItem (.ref a) u) Q E s:=by
 rcases g with ⟨kvs,k,e,ey,l⟩ | ⟨kvs,k,b,e,ey,eb,l⟩
 ·subst ey
  obtain⟨z,hd,vs,rel,dd⟩:=v2 I.hok e
  obtain⟨w',hw,rw'⟩:=fK.some_of (v:=v) (o:=valueAt vs k) (by rw [l]; exact rel.val k)
  exact wpAny_getItem_of (vV ry) dd.mapOf hw (h w' _ (I.tok _) rw')
 ·subst ey
  cases (show u=Value.ref b from ry)
  obtain⟨z,hd,xs,rel,dd⟩:=vZ I.hok e
  obtain⟨w',hw,rw'⟩:=fK.some_of (v:=v) (o:=(atKey xs k).map (·.2)) (by rw [l]; exact rel.val k)
  obtain⟨p,hp,hp2⟩:=Option.map_eq_some_iff.mp hw
  refine wpAny_getItem_heap (tupleKind_room_in1 hu) (sT I.hok eb) dd hp ?_
  rw [hp2]
  exact h w' _ (I.tok _) rw'
theorem vm {h':Heap} {t':Nat} {ob:HO} (I:Inv X pins σ H s) (mu:Mut (H a)) (hs:Heap.SameBut a s.heap h') (he:∃ q,h'.get? a=some q) (new:bh X.prog X.w (upd H a ob) h' a ob) :
  Inv X pins σ (upd H a ob) {s with heap:=h',toks:=t'}:=
 I.write (x:=a) (e:=a) mu (.inl rfl) (fun b q hb z=>(hs.2 b hb).trans z) he new
end
section
variable {X:Cx} {pins:List (Addr×Obj)} {σ:St} {H:Hp} {s:Shared} {a:Addr} {kvs:List (Key×V)} {k:Key} {u:Value} {A:Around} {E:Value→Shared→Prop}
end
def yF (i:Expr):Prop:=∀ ov iv,subscripted i false ov iv=operate [ov,iv] (getItem ov iv)
theorem uq {prog:Program} {w:World} {A:Around} {E:Value→Shared→Prop} {s:Shared} {env:Env} {value slice:Expr} {pos:Pos} {T id:String} {Q:Value→Shared→Prop}
  (hl:typeLookup (.type T) "__getitem__"=pure (some (.builtin id))) (hs:yF slice)
  (h:wpAny (model prog w) A (eval value env) (fun o s₁=>wpAny (model prog w) A (eval slice env) (fun i s₂=>s₂.TypeIs o T∧wpAny (model prog w) A (getItem o i) Q E s₂) E s₁) E s) :
  wpAny (model prog w) A (eval (.Subscript value slice pos) env) Q E s:=by
 refine Subscript_ (wpAny_mono h (fun o s₁ h₁=>wpAny_mono h₁ (fun i s₂ h₂=>?_) fun _ _ x=>x) fun _ _ x=>x)
 obtain⟨hT,h₂⟩:=h₂
 unfold subscriptTail
 refine wpAny_bind ?_
 rw [getitemInPython_of_ne hT.not_modules]
 refine wpAny_bind (wpAny_specialOf hT hl ?_)
 have fin:wpAny (model prog w) A (subscripted slice false o i) (fun r s₃=>wpAny (model prog w) A (letTemporaryGo value o r>>=fun _=>pure r) Q E s₃) E s₂:=by
  rw [hs o i]
  exact wpAny_operating (wpAny_mono h₂ (fun r s₃ h₃=>wpAny_bind (wpAny_letTemporaryGo (wpAny_pure h₃))) fun _ _ x=>x)
 first
  | exact wpAny_pure (wpAny_bind fin)
  | exact wpAny_bind (wpAny_pure (wpAny_bind fin))
  | exact wpAny_bind fin
theorem mJ {X:Cx} {pins:List (Addr×Obj)} {σ:St} {H:Hp} {s:Shared} {a:Addr} {y:V} {o:Option V} (I:Inv X pins σ H s) (g:lm H a y o):s.TypeIs (.ref a) "dict":=by
 rcases g with ⟨kvs,k,e,_,_⟩ | ⟨kvs,k,b,e,_,_,_⟩
 ·obtain⟨_,_,vs,_,dd⟩:=v2 I.hok e
  exact dd.typeIs
 ·obtain⟨_,_,xs,_,dd⟩:=vZ I.hok e
  exact dd.typeIs
def xE (td ty:TE):TE:=fun σ H Q=>td σ H fun x H1=>ty σ H1 fun y H2=>∃ a v,x=.ref a∧lm H2 a y (some v)∧Q v H2
section
variable {X:Cx} {o i e value:Expr} {pos pos' tpos:Pos} {td ty tv:TE}
theorem ph (hu:X.A.units+1<cLine) (ho:PE X o td) (hi:PE X i ty) (hs:yF i):PE X (.Subscript o i pos) (xE td ty):=by
 intro pins s σ H Q I h
 refine uq PySem.F.slot_dict_getitem.lookup hs (thn (ho pins s σ H _ I h) fun u s1 ⟨x,H1,I1,rx,q1⟩=>thn (hi pins s1 σ H1 _ I1 q1) fun iv s2 ⟨y,H2,I2,ry,a,v,ex,g,q2⟩=>?_)
 subst ex
 obtain rfl:u=Value.ref a:=rx
 exact⟨mJ I2 g,qH hu I2 g ry fun w' s3 I3 rw'=>⟨v,H2,I3,rw',q2⟩⟩
end
theorem tT {P:Program} {w:World} {H:Hp} (h:Heap) (hb:sysModules<h.objs.size):bh P w H (h.push {cls:=.type "dict",data:=.dict #[]}) h.objs.size (.dK []):=
 ⟨Nat.zero_le _,beq_eq_false_iff_ne.mpr (Ne.symm (Nat.ne_of_lt hb)),[],.nil,Heap.DictOf.new h⟩
def wq:TE:=fun _ H Q=>∀ p,H p=none→Q (.ref p) (upd H p (.dK []))
section
variable {X:Cx} {pos:Pos}
theorem lV:PE X (.Dict [] [] pos) wq:=fun pins s σ H Q I h=>
 wpAny_Dict_empty ⟨.ref s.heap.objs.size,_,I.laid (a:=s.heap.objs.size) (o:=.dK []) (t':=s.toks) (fun _ _ q=>Heap.get?_push_of_some _ q) (Nat.le_refl _) (tT s.heap I.big),rfl,h _ (I.hok.fresh (Nat.le_refl _))⟩
end
structure M1 (X:Cx) (o:Expr) (m:Str) (apos:Pos) (e:Expr) (cpos:Pos):Prop where
 base:attributeBase o m X.env (eval o X.env)=eval o X.env
 few:((backTo cpos (starEach [e] X.env)).all (fun x=>!x.1)&&(backToKw cpos (keywordEach [] X.env)).all (fun x=>x.1.isSome)
  && decide (([e]:List Expr).length+([]:List Keyword).length+(if ([]:List Keyword).isEmpty then 0 else 1)<30))=true
 line:(apos.endLine==cpos.line)=true
 trees:backTo cpos (starEach [e] X.env)=[(false,eval e X.env)]
structure M2 (X:Cx) (o:Expr) (m:Str) (apos:Pos) (e f:Expr) (cpos:Pos):Prop where
 base:attributeBase o m X.env (eval o X.env)=eval o X.env
 few:((backTo cpos (starEach [e,f] X.env)).all (fun x=>!x.1)&&(backToKw cpos (keywordEach [] X.env)).all (fun x=>x.1.isSome)
  && decide (([e,f]:List Expr).length+([]:List Keyword).length+(if ([]:List Keyword).isEmpty then 0 else 1)<30))=true
 line:(apos.endLine==cpos.line)=true
 trees:backTo cpos (starEach [e,f] X.env)=[(false,eval e X.env),(false,eval f X.env)]
section
variable {X:Cx} {pins:List (Addr×Obj)} {σ:St} {H:Hp} {s:Shared} {a:Addr} {y d:V} {u r:Value} {o:Option V} {A:Around} {E:Value→Shared→Prop}
end
section
variable {X:Cx} {o e f:Expr} {apos cpos:Pos} {td ty tx:TE}
end
section
variable {X:Cx} {pins:List (Addr×Obj)} {σ:St} {H:Hp} {s:Shared} {a:Addr} {kvs:List (Key×V)} {A:Around} {E:Value→Shared→Prop}
end
section
variable {X:Cx} {pins:List (Addr×Obj)} {σ:St} {H:Hp} {s:Shared} {a:Addr} {y:V} {u:Value} {A:Around} {E:Value→Shared→Prop}
end
section
variable {κ:Type} [DecidableEq κ]
end
theorem fW {prog:Program} {w:World} {A:Around} {R:Result→Shared→Prop} {s:Shared} {elt cnd target iter:Expr} {scope:Scope} {pos:Pos} {it acc:Value} {env:Env} (I:Nat→Shared→Prop)
  (turn:∀ n s,I n s→wpAny (model prog w) A (pyNext it) (fun r s1=>match r with
   | none=>R (.ok .next) s1
   | some v=>wpAny (model prog w) A (letOwnedTupleGo target it v) (fun _ s1'=>wpAny (model prog w) A (assign target env v) (fun _ s2=>
     wpAny (model prog w) A (isTrue cnd env (eval cnd env)) (fun b s3=>if b=true then wpAny (model prog w) A (eval elt env) (fun x s4=>
       wpAny (model prog w) A (call (.builtin "list.append") [acc,x]) (fun _ s5=>∃ m,m<n∧I m s5) (notedBy (model prog w) A env fun e s'=>R (.error e) s') s4) (notedBy (model prog w) A env fun e s'=>R (.error e) s') s3 else ∃ m,m<n∧I m s3) (notedBy (model prog w) A env fun e s'=>R (.error e) s') s2)
     (notedBy (model prog w) A env fun e s'=>R (.error e) s') s1') (notedBy (model prog w) A env fun e s'=>R (.error e) s') s1) (notedBy (model prog w) A env fun e s'=>R (.error e) s') s)
  (n:Nat) (h:I n s):codeAny (model prog w) A (.compLoop (.ListComp elt [⟨target,iter,[cnd],0⟩] scope pos) 0 it acc env) R s:=by
 refine codeAny_loop rfl I (fun n s hI=>?_) n h
 show wpAny _ A ((compTurn (.ListComp elt [⟨target,iter,[cnd],0⟩] scope pos) 0 it acc env).onRaise (fun x=>do noteFrame x env; theTreesLotGoes x)) _ _ s
 refine wpAny_noted ?_
 rw [compTurn_list]
 refine wpAny_bind (wpAny_standAt (wpAny_bind (wpAny_mono (turn n s hI) (fun r s1 h1=>?_) fun _ _ h'=>h')))
 cases r with
 | none=>exact wpAny_pure h1
 | some v=>
  refine wpAny_bind (wpAny_mono h1 (fun _ s1' h1'=>?_) fun _ _ h'=>h')
  refine wpAny_bind (wpAny_mono h1' (fun _ s2 h2=>wpAny_bind (wpAny_mono (wpAny_tests_one h2) (fun ok s3 h3=>?_) fun _ _ h'=>h')) fun _ _ h'=>h')
  cases ok with
  | true=>exact wpAny_bind (wpAny_bind (wpAny_mono h3 (fun x s4 h4=>wpAny_bind (wpAny_mono h4 (fun _ s5 h5=>wpAny_pure (wpAny_pure ⟨rfl,h5⟩)) fun _ _ h'=>h')) fun _ _ h'=>h'))
  | false=>exact wpAny_bind (wpAny_pure (wpAny_pure ⟨rfl,h3⟩))
def ln (n:Nat) (J:It) (g:TG) (tc:TT) (te:TE) (σ:St) (H:Hp) (Q:VK):Prop:=
 ∃ W:Nat→Nat→List V→St→Hp→Prop,(∃ m,W 0 m [] (List.replicate n none++σ) H)∧∀ i m ys σ' H,W i m ys σ' H→
  (J.stop i H∧∀ D,H D=none→Q (.ref D) (upd H D (.lst ys)))∨
  (J.go i H∧ys.length<sizeLine∧∀ x H',J.yld i H x H'→g x σ' H' fun σ2 H2=>tc σ2 H2 fun b H3=>if b=true then ∃ N:VK,te σ2 H3 N∧∀ v H4,N v H4→∃ m',m'<m∧W (i+1) m' (ys++[v]) σ2 H4 else ∃ m',m'<m∧W (i+1) m' ys σ2 H3)
def m8 (n:Nat) (wi:TI) (g:aK TG) (tc:aK TT) (te:aK TE):TE:=fun σ H Q=>wi σ H fun J H1=>∀ cl C ex s Hc,ln n J (g cl C ex s Hc) (tc cl C ex s Hc) (te cl C ex s Hc) σ H1 Q
section
variable {X:Cx} {n:Nat} {N':List Str} {scope:Scope} {elt cnd tg iter:Expr} {pos:Pos} {pins:List (Addr×Obj)} {σ:St} {H2:Hp} {s2:Shared} {cl:List (Str×Addr)}
theorem iA {E0:XK} {it:Addr} {fp:List Addr} {tn:Nat→Heap→Prop} {J:It} {g:aK TG} {tc:aK TT} {te:aK TE} {Q:VK} {E:Value→Shared→Prop}
  (hc:X.calm=true) (S:bU n N' X scope) (c1:∀ x c,cl.lookup x=some c→X.env.cells.lookup x=some c) (c2:∀ x∈scope.names,x.2=.free→∃ c,cl.lookup x.1=some c)
  (I2:Inv X pins σ H2 s2) (T:kY X.prog X.w X.K tg J fp it tn) (st2:tn 0 s2.heap) (f2:∀ b∈fp,fX X pins H2 b)
  (hg:∀ cl C ex s H,PG ((ax X N' scope cl C ex s H).exc E0) tg (g cl C ex s H)) (hcn:∀ cl C ex s H,PT ((ax X N' scope cl C ex s H).exc E0) cnd (tc cl C ex s H)) (he:∀ cl C ex s H,PE ((ax X N' scope cl C ex s H).exc E0) elt (te cl C ex s H))
  (cok:∀ cl C ex s Hc,ln n J (g cl C ex s Hc) (tc cl C ex s Hc) (te cl C ex s Hc) σ H2 Q) :
  wpAny (model X.prog X.w) X.A (newList []) (fun acc s3=>wpAny (model X.prog X.w) X.A (newFunctionEnv scope X.env.globals cl [] X.env.qual none .none (some X.env)) (fun cenv s4=>
   codeAny (model X.prog X.w) X.A (.compStart (.ListComp elt [⟨tg,iter,[cnd],0⟩] scope pos) 0 (.ref it) acc {cenv with scope:=relabel scope X.env})
    (fun r s'=>match r with | .ok _=>dm X pins σ Q acc cenv.locals s' | .error x=>di (ax X N' scope cl cenv.locals fp s2 H2) E0 x s') s4) E s3) E s2:=by
 have fl:∀ b∈fp,@LT.lt Nat _ b s2.heap.objs.size:=fun b hb=>by
  obtain⟨o,e,_⟩:=T.obj _ _ st2 b hb
  exact Heap.lt_size e
 have frl:∀ b∈frs X.stack,@LT.lt Nat _ b s2.heap.objs.size:=fun b hb=>by
  obtain⟨_,o,ho,_⟩:=I2.stack.mem hb
  exact Heap.lt_size ho
 have celll:∀ x c,X.env.cells.lookup x=some c→@LT.lt Nat _ c s2.heap.objs.size:=fun x c e=>by
  obtain⟨v,q⟩:=I2.cell x c e
  exact q.lt
 refine wpAny_newObj_type (wpAny_newFunctionEnv S.cell (by intro y hy; simp at hy) (fun h1 hns1 hsb1=>?_) S.kind)
 dsimp only at hns1 hsb1 ⊢
 generalize hH2:s2.heap.push {cls:=.type "list",dict:=none,data:=.seq ([]:List Value).toArray}=G at hns1 hsb1 ⊢
 have hC:@Eq Nat G.objs.size (s2.heap.objs.size+1):=by rw [← hH2,Heap.size_push]
 have hDC:s2.heap.objs.size≠G.objs.size:=by show @Ne Nat _ _; omega
 have below:∀ b,@LT.lt Nat _ b s2.heap.objs.size→b≠G.objs.size∧b≠s2.heap.objs.size:=fun b hb=>⟨by show @Ne Nat _ _; omega,Nat.ne_of_lt hb⟩
 have old:∀ b o,s2.heap.get? b=some o→h1.get? b=some o:=fun b o e=>hsb1.extBut b o (below b (Heap.lt_size e)).1 (Heap.get?_push_of_some _ (hH2▸Heap.get?_push_of_some _ e))
 have hacc:h1.get? s2.heap.objs.size=some {cls:=.type "list",data:=.seq ([]:List Value).toArray 0}:=hsb1.extBut _ _ hDC (Heap.get?_push_of_some _ (hH2▸Heap.get?_push_size _ rfl))
 have hst1:tn 0 h1:=T.keep _ _ _ st2 fun b hb o e=>old b o e
 let X':=ax X N' scope cl G.objs.size fp s2 H2
 obtain⟨W,⟨m0,w0⟩,turn⟩:=cok cl G.objs.size fp s2 H2
 have hXe:X'.xe=X.xe:=rfl
 have stat:∀ {H':Hp} {ps:List (Addr×Obj)},(∀ b∈fp,H' b=none)→(∀ p∈ps,p.1=s2.heap.objs.size)→∀ b∈fp,fX X' ps H' b:=fun {H' ps} hn hp b hb=>by
  obtain⟨f0,f1,ff,f3,f4,f5⟩:=f2 b hb
  refine⟨hn b hb,(below b (fl b hb)).1,fun z=>?_,.inl hb,fun x c e z=>?_,fun p hp' z=>?_⟩
  ·exact(List.mem_cons.mp (I2.stkSub b z)).elim f1 ff
  ·exact f4 x c (c1 x c e) z
  ·have e:p.1=s2.heap.objs.size:=hp p (by simpa [X',ax] using hp')
   exact(below b (fl b hb)).2 (z.symm.trans e)
 have loop:∀ s3:Shared,s3={s2 with heap:=h1,toks:=s2.toks+([]:List (Str×Value)).length}→
   codeAny (model X.prog X.w) X.A (.compLoop (.ListComp elt [⟨tg,iter,[cnd],0⟩] scope pos) 0 (.ref it) (.ref s2.heap.objs.size) (compEnvC scope cl G.objs.size X.env))
    (fun r s'=>match r with | .ok _=>dm X pins σ Q (.ref s2.heap.objs.size) G.objs.size s' | .error x=>di (ax X N' scope cl G.objs.size fp s2 H2) E0 x s') s3:=by
  rintro s3 rfl
  have I3:=ju (us:=[]) (k:=0) (s':={s2 with heap:=h1,toks:=s2.toks+([]:List (Str×Value)).length}) S c1 c2 I2 f2 fl rfl hC rfl rfl old ⟨_,hns1⟩ hacc
  refine fW (fun m s'=>∃ i ys us k σ' H',Inv X' [(s2.heap.objs.size,{cls:=.type "list",data:=.seq (us:List Value).toArray k})] σ' H' s'∧aI ys us∧tn i s'.heap∧(∀ b∈fp,H' b=none)∧ys.length≤sizeLine∧W i m ys σ' H') ?_ m0
   ⟨0,[],[],0,_,H2,I3,.nil,hst1,fun b hb=>(f2 b hb).1,Nat.zero_le _,w0⟩
  rintro m s' ⟨i,ys,us,k,σ',H',I',rv,st',fr',hlen,w'⟩
  rcases turn i m ys σ' H' w' with ⟨stop,q⟩ | ⟨go,hlt,step⟩
  ·refine thn (T.done X' rfl rfl rfl hc i _ s' σ' H' _ I' (stat fr' (by simp)) st' stop) fun r s4 ⟨hr,I4⟩=>?_
   subst hr
   show dm X pins σ Q (.ref s2.heap.objs.size) G.objs.size s4
   obtain⟨m1,hn1,_⟩:=I4.loc
   obtain⟨pD,nD,_,_,_⟩:=I4.pin (s2.heap.objs.size,{cls:=.type "list",data:=.seq us.toArray k}) (List.mem_append_right _ (by simp))
   have nD:H' s2.heap.objs.size=none:=nD
   have pD:s4.heap.get? s2.heap.objs.size=some {cls:=.type "list",data:=.seq us.toArray k}:=pD
   have hok:HOk X.prog X.w (upd H' s2.heap.objs.size (.lst ys)) s4.heap:=fun b u e=>by
    by_cases hb:b=s2.heap.objs.size
    ·subst hb
     rw [ac] at e; cases e
     exact⟨hlen,us,k,rv,pD⟩
    ·rw [ag hb] at e
     exact(I4.hok b u e).stay (fun _ _ _ q=>q) (fun c q=>by rw [ag (al q nD)]; exact q) fun c xs q=>by rw [ag (al q nD)]; exact q
   have un:Un (frs X.stack) fp H2 (upd H' s2.heap.objs.size (.lst ys)) s2.heap s4.heap:=by
    have u0:=I4.base
    refine⟨u0.keep,u0.slot,fun b o e n hx=>?_,u0.there,fun b xs e=>?_,fun b o xs e=>?_,fun b ps e=>?_⟩
    ·rw [ag (below b (Heap.lt_size e)).2]; exact u0.free b o e n hx
    ·have q:=u0.tups b xs e
     rw [ag (al q nD)]; exact q
    ·have q:=u0.frzs b o xs e
     rw [ag (al q nD)]; exact q
    ·obtain⟨more,q⟩:=u0.tbls b ps e
     exact⟨more,by rw [ag (al q nD)]; exact q⟩
   have IX:Inv X pins σ (upd H' s2.heap.objs.size (.lst ys)) s4:=I2.call' (ch:=fp) I4.os un hok I4.bare fun b hb=>by
    obtain⟨f0,f1,ff,f3,f4,f5⟩:=f2 b hb
    exact⟨f3,f1,f4,f5⟩
   have hG0:H' G.objs.size=none:=I4.free
   refine⟨s2.heap.objs.size,_,m1,rfl,IX,hn1,⟨by rw [ag (Ne.symm hDC)]; exact hG0,fun z=>?_,fun z=>?_,.inr ?_,fun x c e z=>?_,fun p hp z=>?_⟩,q _ nD⟩
   ·have q1:@LT.lt Nat _ X.env.locals s2.heap.objs.size:=I2.lt
    have q2:@Eq Nat G.objs.size X.env.locals:=z
    omega
   ·have z':G.objs.size∈frs X.outer:=z
    obtain⟨_,o,ho,_⟩:=I2.funs.mem z'
    have q1:@LT.lt Nat _ G.objs.size s2.heap.objs.size:=Heap.lt_size ho
    omega
   ·have q1:=I2.sz
    show @LE.le Nat _ X.s₀.heap.objs.size G.objs.size
    omega
   ·have q1:=celll x c e
    have q2:@Eq Nat c G.objs.size:=z
    omega
   ·have q1:@LT.lt Nat _ p.1 s2.heap.objs.size:=Heap.lt_size (I2.pin p hp).1
    have q2:@Eq Nat p.1 G.objs.size:=z
    omega
  ·refine thn (T.item X' rfl rfl rfl hc i _ s' σ' H' _ I' (stat fr' (by simp)) st' go) fun r s4 ⟨u,hr,h4⟩=>?_
   subst hr
   show wpAny _ _ (letOwnedTupleGo tg (.ref it) u) _ _ s4
   refine thn h4 fun _ s5 ⟨x,H5,I5,r5,y5,st5,fr5⟩=>?_
   have I5':=I5.pinned (stat fr5 (by simp)) (T.obj _ _ st5)
   have w1:=hg cl G.objs.size fp s2 H2 _ s5 σ' H5 x u _ (I5'.wish _) r5 (step x H5 y5)
   refine wpAny_mono w1 (fun _ s6 ⟨σ6,H6,I6,q6⟩=>?_) fun v s hv=>wpAny_mono (XE.note (X:=ax X N' scope cl G.objs.size fp s2 H2) (E:=E0) hv) (fun _ _ z=>z) fun _ _ z=>z
   have w15:=hcn cl G.objs.size fp s2 H2 _ s6 σ6 H6 _ I6 q6
   refine wpAny_mono w15 (fun bb s65 ⟨H65,I65,q65⟩=>?_) fun v s hv=>wpAny_mono (XE.note (X:=ax X N' scope cl G.objs.size fp s2 H2) (E:=E0) hv) (fun _ _ z=>z) fun _ _ z=>z
   cases bb with
   | false=>
    rw [if_neg Bool.false_ne_true] at q65 ⊢
    obtain⟨m',hm',w65⟩:=q65
    have I66:=I65.unwish
    have pinD:=I66.pin (s2.heap.objs.size,{cls:=.type "list",data:=.seq us.toArray k}) (List.mem_append_right _ (List.mem_append_left _ (by simp)))
    refine⟨m',hm',i+1,ys,us,k,σ6,H65,I66.pins_of (fun p hp=>by rw [List.mem_singleton.mp hp]; exact pinD),rv,T.keep _ _ _ st5 fun b hb o e=>?_,fun b hb=>?_,hlen,w65⟩
    ·exact(I66.pin (b,o) (List.mem_append_right _ (List.mem_append_right _ (bD hb e)))).1
    ·obtain⟨o,e,d⟩:=T.obj _ _ st5 b hb
     exact(I66.pin (b,o) (List.mem_append_right _ (List.mem_append_right _ (bD hb e)))).2.1
   | true=>
   rw [if_pos rfl] at q65 ⊢
   obtain⟨NN,q6,hNN⟩:=q65
   have I6:=I65
   have H6:=H65
   have w2:=he cl G.objs.size fp s2 H2 _ s65 σ6 H65 _ I6 q6
   refine wpAny_mono w2 (fun y s7 ⟨v,H7,I7w,r7,q7⟩=>?_) fun v s hv=>wpAny_mono (XE.note (X:=ax X N' scope cl G.objs.size fp s2 H2) (E:=E0) hv) (fun _ _ z=>z) fun _ _ z=>z
   have I7:=I7w.unwish
   obtain⟨m',hm',w7⟩:=hNN v H7 q7
   have pinD:=I7.pin (s2.heap.objs.size,{cls:=.type "list",data:=.seq us.toArray k}) (List.mem_append_right _ (List.mem_append_left _ (by simp)))
   obtain⟨pD,nD,lD,fD,_⟩:=pinD
   refine append_at (hsz:=by rw [List.size_toArray,← rv.length]; exact hlen) pD fun h8 hs8 hD8=>?_
   have nD:H7 s2.heap.objs.size=none:=nD
   have I8:Inv X' (bI fp s5.heap) σ6 H7 {s7 with heap:=h8}:=by
    refine(I7.pins_of (pins':=bI fp s5.heap) fun p hp=>I7.pin p (List.mem_append_right _ (List.mem_append_right _ hp))).turned (t':=s7.toks) (it:=s2.heap.objs.size) (fun b o hb e=>(hs8.2 b hb).trans e) nD lD (.inr (Nat.le_refl _)) (fun x c e z=>?_) fun p hp z=>?_
    ·have q1:=celll x c (c1 x c e)
     have q2:@Eq Nat c s2.heap.objs.size:=z
     omega
    ·have hp':p∈bI fp s5.heap:=by simpa [X',ax] using hp
     have q1:=fl p.1 (eI hp').1
     have q2:@Eq Nat p.1 s2.heap.objs.size:=z
     omega
   have I9:Inv X' [(s2.heap.objs.size,{cls:=.type "list",data:=.seq (us++[y]).toArray (k+1)})] σ6 H7 {s7 with heap:=h8}:=I8.pins_of fun p hp=>by
    have e:p=(s2.heap.objs.size,{cls:=.type "list",data:=.seq (us++[y]).toArray (k+1)}):=by simpa using hp
    subst e
    refine⟨by rw [hD8,List.push_toArray],nD,lD,fD,fun v z=>by cases z⟩
   refine⟨m',hm',i+1,ys++[v],us++[y],k+1,σ6,H7,I9,rv.append (.cons r7 .nil),T.keep _ _ _ st5 fun b hb o e=>?_,fun b hb=>?_,by rw [List.length_append,List.length_singleton]; omega,w7⟩
   ·exact(I8.pin (b,o) (List.mem_append_right _ (bD hb e))).1
   ·obtain⟨o,e,d⟩:=T.obj _ _ st5 b hb
    exact(I8.pin (b,o) (List.mem_append_right _ (bD hb e))).2.1
 exact codeAny_compStart_list (loop _ rfl) (T.self _ 0 _ _ _ hst1 (loop _ rfl))
theorem rO {E0:XK} {wi:TI} {g:aK TG} {tc:aK TT} {te:aK TE} (fr:eA X) (hc:X.calm=true) (S:bU n N' X scope) (hi:PI (X.exc E0) tg iter wi)
  (hg:∀ cl C ex s H,PG ((ax X N' scope cl C ex s H).exc E0) tg (g cl C ex s H)) (hcn:∀ cl C ex s H,PT ((ax X N' scope cl C ex s H).exc E0) cnd (tc cl C ex s H)) (he:∀ cl C ex s H,PE ((ax X N' scope cl C ex s H).exc E0) elt (te cl C ex s H))
  (hs:∀ x,foldedSetIterable iter X.env x=pure x:=by intro _; rfl):PE (X.exc E0) (.ListComp elt [⟨tg,iter,[cnd],0⟩] scope pos) (m8 n wi g tc te):=by
 intro pins s σ H Q I h
 rw [eval_ListComp]
 obtain⟨cl,hcl,c1,c2⟩:=d5 (scope:=scope) (env:=X.env) fun x hx hf=>I.ok.has x.1 (S.free x hx hf)
 refine wpAny_comprehension_free (use:=none) rfl hs hcl S.kind S.names (thn (hi pins s σ H _ I h) fun v s1 h1=>thn h1 fun itv s2 h2=>?_)
 obtain⟨it,fp,tn,J,H2,e,I2w,T,st2,f2,cok⟩:=h2
 subst e
 have I2:=I2w.unwish
 refine wpAny_mono (iA (X:=X) (E0:=E0) (pos:=pos) (iter:=iter) (Q:=Q) (E:=(X.exc E0).xe) hc S c1 c2 I2 T st2 f2 hg hcn he cok) (fun acc s3 h3=>wpAny_mono h3 (fun cenv s4 h4=>codeAny_mono h4 fun r s' hr=>?_) fun _ _ z=>z) fun _ _ z=>z
 cases r with
 | error e=>exact jw I2 f2 fr hr
 | ok f=>
  obtain⟨D,H',m,rfl,I',hn,⟨f0,f1,ff,f3,f4,f5⟩,q⟩:=hr
  refine⟨m,hn,fun h' hs'=>⟨.ref D,H',Inv.wish ?_ _,rfl,q⟩⟩
  exact I'.turned (t':=s'.toks) (fun b o hb e=>(hs'.2 b hb).trans e) f0 f1 f3 f4 f5
theorem lT {E0:XK} {wi:TI} {g:aK TG} {tc:aK TT} {te:aK TE} {i:Nat} {x:Str} {pos' spos:Pos} (hN:X.N.Nodup) (hi0:X.N[i]? = some x) (hx:Loc X.env.scope x)
  (hsw:swapsWith (.ListComp elt [⟨tg,iter,[cnd],0⟩] scope pos) (some (.Name x pos')) spos.line X.env=pure true)
  (fr:eA X) (hc:X.calm=true) (S:bU n N' X scope) (hi:PI (X.exc E0) tg iter wi)
  (hg:∀ cl C ex s H,PG ((ax X N' scope cl C ex s H).exc E0) tg (g cl C ex s H)) (hcn:∀ cl C ex s H,PT ((ax X N' scope cl C ex s H).exc E0) cnd (tc cl C ex s H)) (he:∀ cl C ex s H,PE ((ax X N' scope cl C ex s H).exc E0) elt (te cl C ex s H))
  (hs:∀ x,foldedSetIterable iter X.env x=pure x:=by intro _; rfl) (hf:X.fn x=true∨X.env.scope.names.lookup x=some .local:=by first | exact .inl rfl | exact .inr rfl | assumption) :
  PS (X.exc E0) (.Assign [.Name x pos'] (.ListComp elt [⟨tg,iter,[cnd],0⟩] scope pos) spos) (pW (m8 n wi g tc te) (dQ i)):=by
 intro pins s σ H D I h
 rw [exec_Assign_Name_used _ _ _ _ hsw]
 refine wpAny_bind (wpAny_standAt (wpAny_bind ?_))
 obtain⟨cl,hcl,c1,c2⟩:=d5 (scope:=scope) (env:=X.env) fun x hx hf=>I.ok.has x.1 (S.free x hx hf)
 show wpAny _ _ (do let _ ← comprehension (.ListComp elt [⟨tg,iter,[cnd],0⟩] scope pos) scope X.env _ (newList []) false (eval iter X.env) (some (assign (.Name x pos') X.env))) _ _ s
 refine wpAny_bind (wpAny_mono (wpAny_comprehension_free (use:=some (assign (.Name x pos') X.env)) (Q:=fun _ s'=>SP (X.exc E0) pins D .next s') rfl hs hcl S.kind S.names
  (thn (hi pins s σ H _ I h) fun v s1 h1=>thn h1 fun itv s2 h2=>?_)) (fun _ s' hq=>wpAny_pure (wpAny_pure hq)) fun _ _ e=>e)
 obtain⟨it,fp,tn,J,H2,e,I2w,T,st2,f2,cok⟩:=h2
 subst e
 have I2:=I2w.unwish
 refine wpAny_mono (iA (X:=X) (E0:=E0) (pos:=pos) (iter:=iter) (E:=(X.exc E0).xe) (Q:=fun x H1=>dQ i x σ H1 D.nx) hc S c1 c2 I2 T st2 f2 hg hcn he cok) (fun acc s3 h3=>wpAny_mono h3 (fun cenv s4 h4=>codeAny_mono h4 fun r s' hr=>?_) fun _ _ z=>z) fun _ _ z=>z
 cases r with
 | error e=>exact jw I2 f2 fr hr
 | ok f=>
  obtain⟨Dl,H',m,rfl,I',hn,⟨f0,f1,ff,f3,f4,f5⟩,q⟩:=hr
  show wpAny _ _ (assign (.Name x pos') X.env (.ref Dl)) _ _ s'
  refine wpAny_assign_Name (fM I' hN hi0 hx (v:=.ref Dl) (u:=.ref Dl) rfl (fun s'' I'' hb=>?_) hf)
  obtain⟨a,sb,ha⟩:=hb
  have hCa:cenv.locals≠a:=by
   rcases ha with rfl | ha
   ·exact f1
   ·exact fun z=>f4 x a ha z.symm
  refine⟨m,hn.sameBut sb hCa,fun h' hs'=>⟨_,H',Inv.wish ?_ _,q⟩⟩
  exact I''.turned (t':=s''.toks) (fun b o hb e=>(hs'.2 b hb).trans e) f0 f1 f3 f4 f5
end
structure dj (k:Nat) (A:Around):Prop where
 gd:A.guards=some []
 dp:A.depth+3*k+5<recursionLimit
 un:A.units+16*k+200<cLine
theorem bN.u {k:Nat} {A:Around} (r:bN k A):dj k A:=⟨r.gd,r.dp,r.un⟩
theorem dj.mono {j k:Nat} {A:Around} (r:dj k A) (h:j≤k):dj j A:=⟨r.gd,by have:=r.dp; omega,by have:=r.un; omega⟩
theorem dj.mark {k:Nat} {A:Around} (r:dj k A) (e:Option Value):dj k (A.mark e):=⟨r.gd,r.dp,r.un⟩
theorem dj.deeper {k:Nat} {A:Around} (r:dj (k+1) A) (env:Env):dj k (A.deeper env):=⟨r.gd,(by have:=r.dp; show A.depth+1+3*k+5<_; omega),(by have:=r.un; show A.units+3+16*k+200<_; omega)⟩
theorem dj.depth {k:Nat} {A:Around} (r:dj k A):A.depth<recursionLimit:=by have:=r.dp; omega
structure uf (P:Program) (w:World) (K:PySem.W.Frag) (mg:Str→Option Value) (base:Heap) (CX:CXT) (k:Nat) (f:Addr) (fd:FuncData) (ps:List Str) (sp:Sp):Prop where
 len:∀ vs H Q E,sp vs H Q E→vs.length=ps.length
 run:∀ (A:Around) (outer:List Env) (s:Shared) (H:Hp) (args:Args) (us:List Value) (vs:List V) (Q:VK) (E:XK),dj k A→gS P w K mg base A outer s H→BindsTo s fd args (ps.zip us)→aI vs us→sp vs H Q E→
  codeAny (model P w) A (.call (.ref f) args) (CR CX outer P w H s Q E) s
def j5 (CX:CXT) (P:Program) (w:World) (K:PySem.W.Frag) (mg:Str→Option Value) (base:Heap) (N:List Str) (qual:Str) (scope:Scope) (f:Addr) (cd:Value) (A:Around) (outer:List Env) (s:Shared) (H:Hp) (E:XK):Cx where
 prog:=P
 w:=w
 K:=K
 mg:=mg
 base:=base
 A:=A.deeper (envOfC qual scope s.heap.objs.size f cd)
 N:=N
 s₀:=s
 H₀:=H
 env:=envOfC qual scope s.heap.objs.size f cd
 outer:=outer
 stack:=envOfC qual scope s.heap.objs.size f cd::outer
 ex:=[]
 calm:=false
 fn:=fun _=>true
 pn:=[]
 xe:=fun e s'=>wpAny (model P w) (A.deeper (envOfC qual scope s.heap.objs.size f cd)) (leaving (envOfC qual scope s.heap.objs.size f cd) e) (fun _ s''=>CX outer H s E e s'') (fun e' s''=>CX outer H s E e' s'') s'
theorem oj {CX:CXT} {P:Program} {w:World} {K:PySem.W.Frag} {mg:Str→Option Value} {base:Heap} {N ps:List Str} {qual:Str} {scope:Scope} {f:Addr} {cd:Value} {A:Around} {outer:List Env} {s s1:Shared} {H:Hp} {E:XK} {us:List Value} {vs:List V}
  (S:aB N ps scope) (e0:gS P w K mg base A outer s H) (hl:vs.length=ps.length) (r:aI vs us)
  (x:InCallC s s.heap.objs.size (bindL (envOfC qual scope s.heap.objs.size f cd).kindOf (ps.zip us) fun _=>none) (cellsFrom (s.heap.objs.size+1) scope.names []) (bindC (envOfC qual scope s.heap.objs.size f cd).kindOf (ps.zip us) fun _=>none) s1) :
  Inv (j5 CX P w K mg base N qual scope f cd A outer s H E) [] (cR N vs) H s1:=by
 have hpl:ps.length≤N.length:=by have:=congrArg List.length S.pre; rw [List.length_take] at this; omega
 obtain⟨h1,tk,rfl,hk⟩:=x.done
 have noA:∀ b:Addr,b∉(j5 CX P w K mg base N qual scope f cd A outer s H E).ex:=fun b z=>absurd (show b∈([]:List Addr) from z) (by simp)
 refine⟨⟨e0.mod,S.kind,rfl,rfl,Nat.le_refl _,fun y z c h1 h2=>?_,fun y hy=>?_,fun y c _ h=>?_,(fun z=>nomatch z),Around.frames_deeper e0.frames,.inr ⟨rfl,rfl⟩,fun b z=>absurd z (noA b),e0.bs,e0.bsz,fun b _ _=>noA b,fun b z=>absurd z (noA b),e0.funs,e0.frf⟩,
  rfl,e0.bare,Un.kept hk,⟨_,x.toInCall.ns,fun i y v h1 h2 h3=>?_⟩,fun y c h=>⟨_,x.cell y c h⟩,e0.hok.fresh (Nat.le_refl _),fun y c h=>?_,fun p hp=>absurd (show p∈([]:List (Addr×Obj)) from hp) (by simp),e0.hok.kept hk,?_⟩
 ·exact name_of_addr x.apart (PySem.mem_of_lookup h1) (PySem.mem_of_lookup h2)
 ·have hy:scope.names.lookup y=some .cell∨scope.names.lookup y=some .free:=hy
  rcases hy with hy | hy
  ·exact gO hy
  ·exact absurd rfl (S.nofree _ (PySem.mem_of_lookup hy))
 ·exact Nat.le_of_lt (x.above y c (PySem.mem_of_lookup h))
 ·have hi:i<vs.length:=by
   unfold cR at h2
   by_cases hi:i<vs.length
   ·exact hi
   ·rw [List.getElem?_append_right (by simpa using hi)] at h2
    rw [List.getElem?_replicate] at h2
    split at h2 <;> cases h2
  have ha:vs[i]? = some v:=by
   unfold cR at h2
   rw [List.getElem?_append_left (by simpa using hi),List.getElem?_map] at h2
   cases e:vs[i]? with
   | none=>rw [e] at h2; cases h2
   | some a=>rw [e] at h2; cases h2; rfl
  obtain⟨u,hu,rv⟩:=r.get ha
  have hp:ps[i]? = some y:=by
   rw [← S.pre,List.getElem?_take_of_lt (by omega)]; exact h1
  have ndP:ps.Nodup:=by rw [← S.pre]; exact S.nd.sublist (List.take_sublist _ _)
  refine⟨u,rv,?_⟩
  rcases S.par y (List.mem_of_getElem? hp) with k | k
  ·exact .inl ⟨k,ii ndP hp hu k⟩
  ·obtain⟨c,e⟩:=gO (n:=s.heap.objs.size+1) k
   refine .inr ⟨.inl k,c,e,?_⟩
   have q:=x.cell y c e
   rw [ij ndP hp hu (by show scope.names.lookup y≠_; rw [k]; decide)] at q
   exact q
 ·exact e0.hok.fresh (Nat.le_of_lt (x.above y c (PySem.mem_of_lookup h)))
 ·unfold cR
  show _=N.length
  rw [List.length_append,List.length_map,List.length_replicate]
  omega
theorem wX {CX:CXT} {P:Program} {w:World} {K:PySem.W.Frag} {mg:Str→Option Value} {base:Heap} {k:Nat} {f:Addr} {name qual:Str} {params:Arguments} {body:List Stmt} {scope:Scope} {dV kV doc pm cdv ct oc:Value} {an od:Option Addr}
  {osl:Array (Option Value)} {N ps:List Str} {sp:Sp} (lk:K.lookup f=some ⟨oc,od,.func (PySem.W.fnOf name qual params body scope dV kV doc pm an cdv ct),osl⟩) (hcd:PySem.W.codeIn K cdv qual=true) (S:aB N ps scope)
  (len:∀ vs H Q E,sp vs H Q E→vs.length=ps.length)
  (hbody:∀ (A:Around) (outer:List Env) (s:Shared) (H:Hp) (vs:List V) (Q:VK) (E:XK),dj k (A.deeper (envOfC qual scope s.heap.objs.size f cdv))→sp vs H Q E→
   ∃ t,PSs (j5 CX P w K mg base N qual scope f cdv A outer s H E) body t∧t {nx:=fun _ H'=>Q .non H',rt:=Q} (cR N vs) H) :
  uf P w K mg base CX (k+1) f (PySem.W.fnOf name qual params body scope dV kV doc pm an cdv ct) ps sp:=by
 refine⟨len,fun A outer s H args us vs Q E hr e0 hb r hsp=>?_⟩
 have hl:=len _ _ _ _ hsp
 have KX:K.In s.heap:=e0.mod.kin.keeps fun b o e=>(e0.bs b o e).1
 have lim:s.heap.NoLimit:=e0.mod.nolimit.keeps fun b o e=>(e0.bs b o e).1
 have hkind:∀ y∈ps.zip us,scope.names.lookup y.1=some .local∨(scope.names.lookup y.1=some .cell∧((cellsFrom (s.heap.objs.size+1) scope.names []).lookup y.1).isSome=true):=fun ⟨n,v⟩ hy=>by
  rcases S.par n (List.of_mem_zip hy).1 with q | q
  ·exact .inl q
  ·exact .inr ⟨q,PySem.W.cellsFrom_some _ _ _ (.inl q)⟩
 refine codeAny_call_function hr.depth (KX _ _ lk) rfl S.co S.gen rfl (PySem.W.codeRec_of KX hcd) (hb _ _ _ _ ?_)
 refine wpAny_newFunctionEnv_cells S.kind hkind fun env he s1 x=>?_
 subst he
 refine⟨lim.keeps x.toInCall.keep,codeAny_func ?_⟩
 obtain⟨t,ht,hq⟩:=hbody A outer s H vs Q E (hr.deeper _) hsp
 have I:Inv (j5 CX P w K mg base N qual scope f cdv A outer s H E) [] (cR N vs) H s1:=oj S e0 hl r x
 refine wpAny_mono (ht [] s1 (cR N vs) H _ I hq) (fun fl s' hs=>?_) fun e s' hs=>hs
 have fin:∀ {σ':St} {H':Hp} {v:V} {u:Value},Inv (j5 CX P w K mg base N qual scope f cdv A outer s H E) [] σ' H' s'→aM v u→Q v H'→CE outer P w H s Q u s':=
  fun {σ' H' v u} J rv q=>⟨v,H',J.os,J.bare,J.base,J.hok,rv,q⟩
 cases fl with
 | ret u=>
  obtain⟨v,σ',H',J,rv,q⟩:=hs
  exact fin J rv q
 | next=>
  obtain⟨σ',H',J,q⟩:=hs
  exact fin (v:=V.non) (u:=Value.none) J rfl q
 | brk=>
  obtain⟨_,_,_,q⟩:=hs
  exact False.elim q
 | cont=>
  obtain⟨_,_,_,q⟩:=hs
  exact False.elim q
theorem uF {X:Cx} {k:Nat} {f:Addr} {fd:FuncData} {ps:List Str} {sp:Sp} {pins:List (Addr×Obj)} {σ:St} {H:Hp} {s:Shared} {Q:VK} {us:List Value} {vs:List V} (F:uf X.prog X.w X.K X.mg X.base CX0 k f fd ps sp) (hr:dj k X.A) (hb:cH X.K fd ps [])
  (I:Inv X pins σ H s) (r:aI vs us) (h:sp vs H Q E0):wpAny (model X.prog X.w) X.A (call (.ref f) us) (EP X pins σ Q) X.xe s:=by
 have hl:(us++[]).length=ps.length:=by rw [List.append_nil,← r.length]; exact F.len _ _ _ _ h
 have b:=hb s us I.kIn hl
 rw [List.append_nil] at b
 refine wpAny_call (codeAny_mono (F.run X.A X.stack s H ⟨us,[]⟩ us vs Q E0 hr I.env0 b r h) fun r s' hq=>?_)
 cases r with
 | error e=>exact False.elim hq
 | ok fl=>
  cases fl with
  | ret u=>exact I.after hq
  | next=>exact False.elim hq
  | brk=>exact False.elim hq
  | cont=>exact False.elim hq
def vE (P:Program) (w:World) (K:PySem.W.Frag) (mg:Str→Option Value) (base:Heap) (x:Str) (k:Nat) (ps:List Str) (sp:Sp):Prop:=
 ∃ f fd,mg x=some (.ref f)∧PySem.W.keepIn K (.ref f)=true∧cH K fd ps []∧uf P w K mg base CX0 k f fd ps sp
theorem uN {X:Cx} {x:Str} {k:Nat} {ps:List Str} {sp:Sp} {p pos:Pos} {e:Expr} {es:List Expr} {t:TA} (D:vE X.prog X.w X.K X.mg X.base x k ps sp) (hr:dj k X.A) (hg:Gl X x) (ha:PA X (e::es) t)
  (hdb:(x==("__debug__":Str))=false:=by decide) (he:starEach (e::es) X.env=(false,eval e X.env)::starEach es X.env:=by rfl) (hpl:(backTo pos (starEach es X.env)).any (·.1)=false:=by rfl) :
  PE X (.Call (.Name x p) (e::es) [] pos) (jP sp [] E0 t):=by
 obtain⟨f,fd,hm,hk,hb,F⟩:=D
 intro pins s σ H Q I h
 refine wpAny_Call_Name_kw (fP I hg hm ?_ hdb)
 refine PySem.W.callWith_K (h₀:=X.base) I.ok.mod.kin hk (thn (ha pos pins s σ H _ I h) fun us s1 ⟨vs,H1,I1,r,q⟩=>⟨I1.kIn,?_⟩) he hpl
 have q':sp (vs++[]) H1 Q E0:=q
 rw [List.append_nil] at q'
 exact uF F hr hb I1 r q'
theorem aL.mkU {P:Program} {w:World} {K:PySem.W.Frag} {mg:Str→Option Value} {base:Heap} {x:Str} {st:Stmt} {N ps:List Str} {k:Nat} {sp:Sp} (F:aL K mg x st ps) (S:aB N ps (ah st)) (len:∀ vs H Q E,sp vs H Q E→vs.length=ps.length)
  (hbody:∀ (f:Addr) (cdv:Value) (A:Around) (outer:List Env) (s:Shared) (H:Hp) (vs:List V) (Q:VK) (E:XK),dj k (A.deeper (envOfC x (ah st) s.heap.objs.size f cdv))→sp vs H Q E→
   ∃ t,PSs (j5 CX0 P w K mg base N x (ah st) f cdv A outer s H E).nox (b7 st) t∧t {nx:=fun _ H'=>Q .non H',rt:=Q} (cR N vs) H):vE P w K mg base x (k+1) ps sp:=by
 obtain⟨f,fd,Fn,hm,hb⟩:=F.ex
 refine⟨f,fd,hm,Fn.kp,hb,?_⟩
 obtain⟨oc,od,kV,doc,pm,an,cdv,ct,osl,rfl,lk,hcd⟩:=Fn.ex
 refine wX lk hcd S len fun A outer s H vs Q E hr hsp=>?_
 obtain⟨t,h,q⟩:=hbody f cdv A outer s H vs Q E hr hsp
 exact⟨t,h.nox,q⟩
abbrev Cx.pnd (X:Cx) (pn:List (Addr×Obj)):Cx:={X with pn:=pn}
abbrev Cx.held (X:Cx) (e:Value):Cx:={X with A:=X.A.mark (some e),calm:=false,xe:=fun _ _=>False}
section
variable {X:Cx} {pins:List (Addr×Obj)} {σ:St} {H:Hp} {s:Shared}
theorem Cx.Ok.pnd {pn:List (Addr×Obj)} (ok:X.Ok):(X.pnd pn).Ok:=⟨ok.mod,ok.kind,ok.glob,ok.blt,ok.above,ok.inj,ok.has,ok.cab,ok.hd,ok.frames,ok.stk,ok.exf,ok.bs,ok.bsz,ok.noex,ok.exfs,ok.funs,ok.frf⟩
theorem Cx.Ok.unpnd {pn:List (Addr×Obj)} (ok:(X.pnd pn).Ok):X.Ok:=⟨ok.mod,ok.kind,ok.glob,ok.blt,ok.above,ok.inj,ok.has,ok.cab,ok.hd,ok.frames,ok.stk,ok.exf,ok.bs,ok.bsz,ok.noex,ok.exfs,ok.funs,ok.frf⟩
theorem Inv.pnd (I:Inv X pins σ H s):Inv (X.pnd (X.pn++pins)) [] σ H s:=⟨I.ok.pnd,I.os,I.bare,I.base,I.loc,I.cell,I.free,I.freeC,fun p hp=>I.pin p (by simpa using hp),I.hok,I.len⟩
theorem Inv.unpnd (I:Inv (X.pnd (X.pn++pins)) [] σ H s):Inv X pins σ H s:=⟨I.ok.unpnd,I.os,I.bare,I.base,I.loc,I.cell,I.free,I.freeC,fun p hp=>I.pin p (by simpa using hp),I.hok,I.len⟩
theorem Inv.held (I:Inv X pins σ H s) (e:Value):Inv (X.held e) pins σ H s:=⟨⟨I.ok.mod,I.ok.kind,I.ok.glob,I.ok.blt,I.ok.above,I.ok.inj,I.ok.has,I.ok.cab,(fun z=>nomatch z),I.ok.frames,I.ok.stk,I.ok.exf,I.ok.bs,I.ok.bsz,I.ok.noex,I.ok.exfs,I.ok.funs,I.ok.frf⟩,I.os,I.bare,I.base,I.loc,I.cell,I.free,I.freeC,I.pin,I.hok,I.len⟩
theorem Inv.unheld {e:Value} {ok:X.Ok} (I:Inv (X.held e) pins σ H s):Inv X pins σ H s:=⟨ok,I.os,I.bare,I.base,I.loc,I.cell,I.free,I.freeC,I.pin,I.hok,I.len⟩
def oM (C a:Addr) (dx:Option Addr):HO:=HO.ext fun h=>∃ oe,h.get? a=some oe∧oe.cls=.ref C∧oe.dict=dx∧PySem.W.notCls oe=true
theorem Inv.track {C a:Addr} {dx:Option Addr} {oe:Obj} (I:Inv X pins σ H s) (l:iB X pins H a) (e:s.heap.get? a=some oe) (c:oe.cls=.ref C) (d:oe.dict=dx) (nc:PySem.W.notCls oe=true):Inv X pins σ (upd H a (oM C a dx)) s:=by
 have nb:∀ b u,H b=some u→b≠a:=fun b u q=>al q l.un
 refine⟨I.ok,I.os,I.bare,⟨I.base.keep,I.base.slot,fun b o q n hx=>?_,I.base.there,fun b xs q=>?_,fun b o xs q=>?_,fun b ps q=>?_⟩,I.loc,I.cell,?_,fun x c hc=>?_,fun p hp=>?_,fun b u q=>?_,I.len⟩
 ·have : b≠a:=by
   rintro rfl
   rcases l.new with z | z
   ·exact hx z
   ·rw [z] at q; cases q
  rw [ag this]; exact I.base.free b o q n hx
 ·have:=I.base.tups b xs q
  rw [ag (nb b _ this)]; exact this
 ·have:=I.base.frzs b o xs q
  rw [ag (nb b _ this)]; exact this
 ·obtain⟨m,z⟩:=I.base.tbls b ps q
  exact⟨m,by rw [ag (nb b _ z)]; exact z⟩
 ·rw [ag (Ne.symm l.loc)]; exact I.free
 ·rw [ag (l.cel x c hc)]; exact I.freeC x c hc
 ·obtain⟨e1,n,ne,nf,d⟩:=I.pin p hp
  exact⟨e1,by rw [ag (l.pin p hp)]; exact n,ne,nf,d⟩
 ·by_cases hb:b=a
  ·subst hb
   rw [ac] at q; cases q
   exact⟨⟨oe,e,c,d,nc⟩,⟨oe,e⟩,fun h1 h2 ⟨o,z1,z2⟩ k=>⟨o,k o z1,z2⟩⟩
  ·rw [ag hb] at q
   exact(I.hok b u q).stay (fun _ _ _ z=>z) (fun c z=>by rw [ag (nb c _ z)]; exact z) fun c xs z=>by rw [ag (nb c _ z)]; exact z
theorem pR {M:Model} {A:Around} {E:Value→Shared→Prop} {i:Nat} {x:Str} {v:V} {pos:Pos} {Q:Unit→Shared→Prop} (I:Inv X pins σ H s) (hN:X.N.Nodup) (hi:X.N[i]? = some x) (hk:X.env.scope.names.lookup x=some .local) (hv:σ[i]? = some (some v))
  (h:∀ s',Inv X pins (σ.set i none) H s'→Q () s'):wpAny M A (unbindBehindTheSuite X.env x pos) Q E s:=by
 obtain⟨m,hn,hl⟩:=id I.loc
 obtain⟨u,_,lk⟩:=hl i x v hi hv (.inl hk)
 have hm:m x=some u:=by
  rcases lk with ⟨_,z⟩ | ⟨z,_⟩
  ·exact z
  ·rcases z with z | z <;> (rw [show X.env.kindOf x=some NameKind.local from hk] at z; cases z)
 have hcls:(X.env.scope.kind==.class||(X.env.scope.kind==.module&&X.env.locals != X.env.globals))=false:=by rw [I.ok.kind]; rfl
 unfold unbindBehindTheSuite
 refine wpAny_onRaise (wpAny_unbindName_local hk hn hm hcls fun h' u' hn' hs=>h _ ?_)
 have low:∀ b o,X.s₀.heap.get? b=some o→b≠X.env.locals:=fun b o e=>Nat.ne_of_lt (Nat.lt_of_lt_of_le (Heap.lt_size e) I.ok.above)
 refine⟨I.ok,I.os,I.bare,⟨fun b o e n hb hx=>(hs.2 b (low b o e)).trans (I.base.keep b o e n hb hx),fun b o e n hb hx=>?_,I.base.free,fun b o e hx=>?_,I.base.tups,I.base.frzs,I.base.tbls⟩,⟨_,hn',fun j y v' e1 e2 e3=>?_⟩,fun y c e=>?_,I.free,I.freeC,fun p hp=>?_,fun b o e=>?_,by rw [List.length_set]; exact I.len⟩
 ·obtain⟨sl,e1⟩:=I.base.slot b o e n hb hx
  exact⟨sl,(hs.2 b (low b o e)).trans e1⟩
 ·obtain⟨o',e1⟩:=I.base.there b o e hx
  exact⟨o',(hs.2 b (low b o e)).trans e1⟩
 ·by_cases hj:j=i
  ·subst hj
   rw [List.getElem?_set] at e2
   simp at e2
  ·rw [List.getElem?_set_ne (Ne.symm hj)] at e2
   obtain⟨u2,r2,q⟩:=hl j y v' e1 e2 e3
   refine⟨u2,r2,?_⟩
   rcases q with ⟨k,e⟩ | ⟨k,c,e,z⟩
   ·refine .inl ⟨k,?_⟩
    have : y≠x:=fun e=>hj (jg hN e1 (e▸hi))
    simp [this,e]
   ·exact .inr ⟨k,c,e,z.sameBut hs (I.cne y c e)⟩
 ·obtain⟨w',z⟩:=I.cell y c e
  exact⟨w',z.sameBut hs (I.cne y c e)⟩
 ·obtain⟨e,n,ne,nf,d⟩:=I.pin p hp
  exact⟨(hs.2 p.1 ne).trans e,n,ne,nf,d⟩
 ·refine(I.hok b o e).stay (fun c w' hc q=>(hs.2 c ?_).trans q) (fun _ q=>q) fun _ _ q=>q
  rintro rfl
  rcases hc with rfl | hc
  ·rw [I.free] at e; cases e
  ·rw [I.free] at hc; cases hc
end
def ue (K:PySem.W.Frag) (B:Addr):Prop:=∃ d cd sl,K.lookup B=some ⟨.type "type",d,.cls cd,sl⟩
theorem y9 {M:Model} {A:Around} {K:PySem.W.Frag} {E:Value→Shared→Prop} {s:Shared} {a B C:Addr} {o:Obj} {Q:Bool→Shared→Prop} (X:K.In s.heap) (hB:ue K B) (mB:PySem.W.mroIn K B (.type "BaseException")=some true) (mC:PySem.W.mroIn K C (.ref B)=some true)
  (hx:s.heap.get? a=some o) (hc:o.cls=.ref C) (q:Q true s):wpAny M A (excMatches (.ref a) (.ref B)) Q E s:=by
 obtain⟨h,g,d,t,os⟩:=s
 obtain⟨d',cd',sl',ho⟩:=hB
 have hO:=X _ _ ho
 have f:=tc_notTuple
 have L1:=PySem.W.looks_mroIn (M:=M) X mB
 have L2:=PySem.W.looks_mroIn (M:=M) X mC
 unfold excMatches
 repeat (first | (with_reducible refine wpAny_loadPart_at hx ?_; rw [hc]) | with_reducible refine wpAny_loadPart_at hO ?_ | (with_reducible refine L1.at ?_) | (with_reducible refine L2.at ?_) | wp_step)
 exact q
def yH (K:PySem.W.Frag) (B:Addr) (i:Nat) (Ec:XK) (tb ts:TS):TS:=fun D σ H=>tb D σ H∧∀ (cls:Value) (dx:Option Addr) (H1:Hp) (σ1:St),Ec cls dx H1→σ1.length=σ.length→∃ C,cls=.ref C∧PySem.W.mroIn K C (.ref B)=some true∧∀ a,H1 a=none→
 ts {nx:=fun σ2 H2=>D.nx (σ2.set i none) H2,rt:=D.rt,bk:=fun σ2 H2=>D.bk (σ2.set i none) H2,ct:=fun σ2 H2=>D.ct (σ2.set i none) H2} (σ1.set i (some (.ref a))) (upd H1 a (oM C a dx))
theorem rK {X:Cx} {E':Value→Shared→Prop} {Ec:XK} {B:Addr} {i:Nat} {x n:Str} {body suite:List Stmt} {b0:Stmt} {np hp pos:Pos} {tb ts:TS} (hm:X.mg x=some (.ref B)) (hB:ue X.K B) (mB:PySem.W.mroIn X.K B (.type "BaseException")=some true) (hg:Gl X x) (hN:X.N.Nodup) (hi:X.N[i]? = some n) (hl:X.env.scope.names.lookup n=some .local)
  (hb:∀ pn,PSs ((X.pnd pn).exc Ec) body tb) (hs:∀ pn e,PSs ((X.pnd pn).held e) (b0::suite) ts) (hdb:(x==("__debug__":Str))=false:=by decide) :
  PS (X.wish E') (.Try body [.ExceptHandler (some (.Name x np)) (some n) (b0::suite) hp] [] [] pos) (yH X.K B i Ec tb ts):=by
 intro pins s σ H D Iw h
 obtain⟨h1,h2⟩:=h
 have I:Inv X pins σ H s:=Iw.unwish
 refine wpAny_Try_except (wpAny_mono (hb (X.pn++pins) [] s σ H D (I.pnd.wish _) h1) (fun f s1 z=>?_) fun e s1 z=>?_)
 ·have z':SP (X.wish E') pins D f s1:=by
   cases f with
   | next=>obtain⟨σ',H',J,q⟩:=z; exact⟨σ',H',J.unwish.unpnd.wish _,q⟩
   | brk=>obtain⟨σ',H',J,q⟩:=z; exact⟨σ',H',J.unwish.unpnd.wish _,q⟩
   | cont=>obtain⟨σ',H',J,q⟩:=z; exact⟨σ',H',J.unwish.unpnd.wish _,q⟩
   | ret u=>obtain⟨v,σ',H',J,r,q⟩:=z; exact⟨v,σ',H',J.unwish.unpnd.wish _,r,q⟩
  cases f with
  | next=>exact wpAny_execs_nil z'
  | brk=>exact z'
  | cont=>exact z'
  | ret u=>exact z'
 ·have z1:XE (X.pnd (X.pn++pins)) Ec e s1:=z
  refine wpAny_mono z1.note (fun _ s2 z2=>wpAny_mono z2.land (fun _ s3 z3=>?_) fun _ _ q=>q) fun _ _ q=>q
  obtain⟨a,L,cls,dx,σ1,H1,fl,S,env0,rest,rfl,hst,hf0,hf,I3,ex,hpp,hS,hE⟩:=id z3
  have hlen:σ1.length=σ.length:=I3.len.trans I.len.symm
  obtain⟨C,rfl,mC,h3⟩:=h2 cls dx H1 σ1 hE hlen
  have hcl:∃ oe,s3.heap.get? a=some oe∧oe.cls=.ref C:=by
   cases ex with
   | made he hc=>exact⟨_,he,hc⟩
   | ent he hc=>exact⟨_,he,hc⟩
  obtain⟨oe,he,hoc⟩:=hcl
  refine wpAny_handleBy_cons (codeAny_handlers_test (fP (X:=(X.pnd (X.pn++pins)).held (.ref a)) (I3.held _) hg hm ?_ hdb)) (by intro q; cases q)
  refine y9 I3.kIn hB mB mC he hoc ?_
  refine codeAny_handlers_suite_as ?_
  refine wpAny_mono z3.land (fun _ s4 z4=>?_) fun _ _ q=>q
  obtain⟨a',L',cls',dx4,σ4,H4,fl4,S4,env4,rest4,ea,hst4,hf04,hf4,I4,ex4,hpp4,hS4,hE4⟩:=z4
  cases ea
  have hlen4:σ4.length=σ.length:=I4.len.trans I.len.symm
  obtain⟨C4,rfl,mC4,h4⟩:=h2 cls' dx4 H4 σ4 hE4 hlen4
  have hcl4:∃ oe,s4.heap.get? a=some oe∧oe.cls=.ref C4∧oe.dict=dx4∧PySem.W.notCls oe=true:=by
   cases ex4 with
   | made he hc hx hd=>exact⟨_,he,hc,hx,by unfold PySem.W.notCls; rw [hd]⟩
   | ent he hc hx hd=>exact⟨_,he,hc,hx,by unfold PySem.W.notCls; rw [hd]⟩
  obtain⟨oe4,he4,hoc4,hod4,hnc4⟩:=hcl4
  have la:iB (X.pnd (X.pn++pins)) [] H4 a:=by
   cases ex4 with
   | made=>exact hS4 a (by simp)
   | ent=>exact hS4 a (by simp)
  have I5:=(I4.track la he4 hoc4 hod4 hnc4).held (.ref a)
  refine fi (X:=(X.pnd (X.pn++pins)).held (.ref a)) (v:=.ref a) I5 hN hi (.inl hl) rfl (fun s5 I6=>?_) (.inr hl)
  refine wpAny_mono (hs (X.pn++pins) (.ref a) [] s5 _ _ _ I6 (h4 a la.un)) (fun f s6 z6=>?_) fun _ _ q=>False.elim q
  have iσ:∀ σ':St,σ'.length=X.N.length→(σ'.set i (some V.non))[i]? = some (some V.non):=fun σ' hl'=>List.getElem?_set_self (by rw [hl']; exact(List.getElem?_eq_some_iff.mp hi).1)
  have fin:∀ {σ':St} {H':Hp} {Q:Unit→Shared→Prop},Inv ((X.pnd (X.pn++pins)).held (.ref a)) [] σ' H' s6→(∀ s8,Inv (X.wish E') pins (σ'.set i none) H' s8→Q () s8)→wpAny (model X.prog X.w) X.A (do bindName X.env n .none; unbindBehindTheSuite X.env n hp) Q (X.wish E').xe s6:=fun {σ' H' Q} J k=>by
   refine wpAny_bind (wpAny_bindName (fi (X:=(X.pnd (X.pn++pins)).held (.ref a)) (v:=.non) J hN hi (.inl hl) rfl (fun s7 J7=>?_) (.inr hl)))
   refine pR (X:=(X.pnd (X.pn++pins)).held (.ref a)) J7 hN hi hl (iσ σ' J.len) fun s8 J8=>k s8 ?_
   rw [List.set_set] at J8
   exact(J8.unheld (ok:=I3.ok)).unpnd.wish _
  cases f with
  | next=>obtain⟨σ',H',J,q⟩:=z6; exact fin J fun s8 J8=>⟨_,_,J8,q⟩
  | brk=>obtain⟨σ',H',J,q⟩:=z6; exact fin J fun s8 J8=>⟨_,_,J8,q⟩
  | cont=>obtain⟨σ',H',J,q⟩:=z6; exact fin J fun s8 J8=>⟨_,_,J8,q⟩
  | ret u=>obtain⟨v,σ',H',J,r,q⟩:=z6; exact fin J fun s8 J8=>⟨v,_,_,J8,r,q⟩
end L2
set_option maxHeartbeats 8000000
namespace L2
open PySem PySem.Spec PyProof.Rows
structure dH (K:PySem.W.Frag) (C:Addr):Prop where
 ga:PySem.W.findIn K (.ref C) "__getattribute__"=some (some (.builtin "BaseException.__getattribute__"))
 gn:PySem.W.findIn K (.ref C) "__getattr__"=some none
 cl:PySem.W.findIn K (.ref C) "__class__"=some (some (.builtin "object.__class__"))
 mb:PySem.W.mroIn K C (.type "BaseException")=some true
 mo:PySem.W.mroIn K C (.type "object")=some true
 ty:(PySem.W.clsIn K C).isSome=true
section
variable {prog:Program} {w:World} {A:Around} {E:Value→Shared→Prop} {h:Heap} {g:Array GenState} {d:Drawn} {t:Nat} {os:OsState} {a C:Addr} {o:Obj} {K:PySem.W.Frag}
theorem qT {R:Result→Shared→Prop} (X:K.In h) (F:dH K C) (hx:h.get? a=some o) (hc:o.cls=.ref C) (q:R (.ok (.ret (.ref C))) ⟨h,g,d,t,os⟩) :
  codeAny (model prog w) A (.call (.builtin "getset_descriptor.__get__") ⟨[.builtin "object.__class__",.ref a,.ref C],[]⟩) R ⟨h,g,d,t,os⟩:=by
 have hT5:(⟨h,g,d,t,os⟩:Shared).TypeIs (.builtin "object.__class__") "getset_descriptor":=PySem.F.typeOf_object_class
 have L:=PySem.W.looks_mroIn (M:=model prog w) X F.mo
 have eo:(Value.type (".".intercalate ("object.__class__".cutAt '.').dropLast))=.type "object":=by rw [PySem.F.owner_object_class]
 refine codeAny_call_builtin PySem.F.slot_gs_get.plain PySem.F.entry_gs_get (PySem.F.slot_gs_get.check _ _ _ _ _ _ _ _ hT5 (PySem.F.args_gs_get _ _ _) ?_)
 repeat (any_goals (first | assumption | (with_reducible refine wpAny_loadPart_at hx ?_; rw [hc]) | (rw [eo]; with_reducible refine L.at ?_) | wp_step))
 refine⟨Code.quiet_builtin _ (by decide +kernel),codeAny_builtin PySem.F.entry_object_class ?_⟩
 repeat (any_goals (first | assumption | (with_reducible refine wpAny_loadPart_at hx ?_; rw [hc]) | wp_step))
theorem mY {tk:Tok} {Q:Fin→Shared→Prop} (X:K.In h) (F:dH K C) (hx:h.get? a=some o) (hc:o.cls=.ref C) (q:Q (.done (.ret (.ref C))) ⟨h,g,d,t,os⟩) :
  wpAny (model prog w) A (Builtin.«object.__getattribute__» ⟨[.ref a,.str "__class__" tk],[]⟩) Q E ⟨h,g,d,t,os⟩:=by
 have hT5:(⟨h,g,d,t,os⟩:Shared).TypeIs (.builtin "object.__class__") "getset_descriptor":=PySem.F.typeOf_object_class
 have L:=PySem.W.looks_findIn (M:=model prog w) X F.cl
 have f5:=PySem.F.typeOf_object_class
 have f6:=PySem.F.slot_gs_get.lookup
 have f7:=PySem.F.slot_gs_set.lookup
 repeat (any_goals (first | assumption | (with_reducible refine wpAny_loadPart_at hx ?_; rw [hc]) | (with_reducible refine L.at ?_) | wp_step))
 refine qT X F hx hc ?_
 repeat (any_goals (first | assumption | wp_step))
theorem mZ {nameV:Value} {Q:Unit→Shared→Prop} (X:K.In h) (F:dH K C) (hx:h.get? a=some o) (hc:o.cls=.ref C) (q:Q () ⟨h,g,d,t,os⟩) :
  wpAny (model prog w) A (checkBuiltinCall "BaseException.__getattribute__" ⟨[.ref a,nameV],[]⟩) Q E ⟨h,g,d,t,os⟩:=by
 have hk:builtinKind "BaseException.__getattribute__"=some .slot:=by decide +kernel
 have hsplit:splitId "BaseException.__getattribute__"=some ("BaseException","__getattribute__"):=by decide +kernel
 have ha:=PySem.F.args_bexc_ga (.ref a) nameV
 have L:=PySem.W.looks_mroIn (M:=model prog w) X F.mb
 simp only [checkBuiltinCall,hk,hsplit]
 refine wpAny_bind ?_
 unfold isInstance
 repeat (first | (with_reducible refine wpAny_loadPart_at hx ?_; rw [hc]) | (with_reducible refine L.at ?_) | wp_step)
 exact q
theorem pM {tk:Tok} {R:Result→Shared→Prop} (X:K.In h) (F:dH K C) (hx:h.get? a=some o) (hc:o.cls=.ref C) (q:R (.ok (.ret (.ref C))) ⟨h,g,d,t,os⟩) :
  codeAny (model prog w) A (.call (.builtin "BaseException.__getattribute__") ⟨[.ref a,.str "__class__" tk],[]⟩) R ⟨h,g,d,t,os⟩:=
 codeAny_call_builtin PySem.F.attrBase_ValueError.ga.plain PySem.F.entry_bexc_ga (mZ X F hx hc (mY X F hx hc q))
theorem uh {tk:Tok} {Q:Value→Shared→Prop} (X:K.In h) (F:dH K C) (hx:h.get? a=some o) (hc:o.cls=.ref C) (q:Q (.ref C) ⟨h,g,d,t,os⟩) :
  wpAny (model prog w) A (getAttrBy (.ref a) (.str "__class__" tk) false) Q E ⟨h,g,d,t,os⟩:=by
 have f3:=PySem.F.attrBase_ValueError.ga.bind (.ref a)
 have L1:=PySem.W.looks_findIn (M:=model prog w) X F.ga
 have L2:=PySem.W.looks_findIn (M:=model prog w) X F.gn
 have hx2:(Value.builtin "BaseException.__getattribute__"==Value.builtin "object.__getattribute__")=false:=by decide +kernel
 have hx1:(onTheHeap (Value.ref C)&&Value.builtin "BaseException.__getattribute__"==Value.builtin "object.__getattribute__")=false:=by rw [hx2]; rfl
 repeat (any_goals (first | assumption | (with_reducible refine wpAny_loadPart_at hx ?_; rw [hc]) | (with_reducible refine L1.at ?_) | (with_reducible refine L2.at ?_) | wp_step))
 refine pM X F hx hc ?_
 repeat (any_goals (first | assumption | wp_step))
theorem pN {Q:Option Value→Shared→Prop} (X:K.In h) (F:dH K C) (hx:h.get? a=some o) (hc:o.cls=.ref C) (q:Q (some (.ref C)) ⟨h,g,d,t+1,os⟩) :
  wpAny (model prog w) A (getAttr? (.ref a) "__class__") Q E ⟨h,g,d,t,os⟩:=by
 unfold getAttr? getAttrBy?
 repeat (any_goals (first | assumption | (with_reducible refine uh X F hx hc ?_) | wp_step))
end
end L2
set_option maxHeartbeats 4000000
namespace L2
open PySem PySem.Spec PyProof.Rows
theorem mj {K:PySem.W.Frag} {a C:Addr} (F:dH K C):PySem.W.KitX K (.ref a) (.ref C) (fun h=>∃ o,h.get? a=some o∧o.cls=.ref C) where
 ty:=fun M h _ ⟨o,h1,h2⟩=>h2▸(PySem.W.Looks.ld h1).andThen .now
 it:=fun _ _ X _=>by
  have z:=F.ty
  unfold PySem.W.clsIn at z
  split at z
  ·rename_i c' d' cd' sl' ho
   intro A' Q' E' s' k q
   unfold isType loadHead
   exact wpAny_bind (wpAny_loadPart (k _ _ (X _ _ ho)) (wpAny_pure q))
  ·cases z
 ne:=fun h tp dd its n sl X htp=>by
  have z:=F.ty
  refine Bool.eq_false_iff.mpr fun q=>?_
  have e:C=tp:=Value.ref.inj (beq_iff_eq.mp q)
  subst e
  unfold PySem.W.clsIn at z
  split at z
  ·rename_i c' d' cd' sl' ho
   have y:=(X _ _ ho).symm.trans htp
   cases y
  ·cases z
 ca:=fun {prog w A E Q s} X p q=>by
  obtain⟨h,g,d,t,os⟩:=s
  obtain⟨o,h1,h2⟩:=p
  exact pN X F h1 h2 q
def zb:V→Option Value
 | .ty T=>some (.type T)
 | .ref D=>some (.ref D)
 | _=>none
section
variable {X:Cx}
theorem tP {P:Program} {w:World} {H:Hp} {h:Heap} {a C:Addr} {dx:Option Addr} (ok:HOk P w H h) (e:H a=some (oM C a dx)):∃ o,h.get? a=some o∧o.cls=.ref C:=let ⟨o,z1,z2,_⟩:=(ok a _ e).1; ⟨o,z1,z2⟩
theorem j7:cX X (.builtin "isinstance") (fun xs H Q=>∃ (a C:Addr) (dx:Option Addr) (cv:V) (c:Value) (b:Bool),xs=[.ref a,cv]∧zb cv=some c∧H a=some (oM C a dx)∧dH X.K C∧PySem.W.kitOne X.K (.ref C) c=some b∧Q (.bl b) H):=by
 intro pins s σ H xs us Q I r h
 obtain⟨a,C,dx,cv,c,b,rfl,hcv,ha,F,e,q⟩:=h
 obtain⟨u,u',rfl,rx,ry⟩:=io r
 cases rx
 have hu:u'=c:=by
  cases cv with
  | ty T=>cases ry; exact Option.some.inj hcv
  | ref D=>cases ry; exact Option.some.inj hcv
  | _=>cases hcv
 subst hu
 exact PySem.W.kia_one (mj F) I.kIn (tP I.hok ha) e (fun z=>nomatch z) fun tk=>⟨.bl b,H,I.tok tk,rfl,q⟩
theorem oF:cX X (.builtin "isinstance") (fun xs H Q=>∃ (a C p:Addr) (dx:Option Addr) (ds:List Addr) (b:Bool),xs=[.ref a,.ref p]∧H p=some (.tup (ds.map V.ref))∧H a=some (oM C a dx)∧dH X.K C∧PySem.W.kitAny X.K (.ref C) (ds.map Value.ref)=some b∧Q (.bl b) H):=by
 intro pins s σ H xs us Q I r h
 obtain⟨a,C,p,dx,ds,b,rfl,hp,ha,F,e,q⟩:=h
 obtain⟨u,u',rfl,rx,ry⟩:=io r
 cases rx
 cases ry
 obtain⟨_,its,rv,o,h1,h2,n,h3⟩:=I.hok p _ hp
 have hits:its=ds.map Value.ref:=by
  have : ∀ (ds:List Addr) (its:List Value),aI (ds.map V.ref) its→its=ds.map Value.ref:=by
   intro ds
   induction ds with
   | nil=>intro its r; cases r; rfl
   | cons x r ih=>intro its rr; cases rr with | cons y t=>cases y; rw [ih _ t]; rfl
  exact this ds its rv
 obtain⟨oc,od,odt,osl⟩:=o
 cases h2
 cases h3
 rw [hits] at h1
 exact PySem.W.kia_tup (mj F) I.kIn (tP I.hok ha) h1 e (fun z=>nomatch z) fun tk=>⟨.bl b,H,I.tok tk,rfl,q⟩
end
def fY (P:Program) (w:World) (K:PySem.W.Frag) (mg:Str→Option Value) (base:Heap) (x:Str) (k:Nat) (ps:List Str) (sp:Sp):Prop:=
 ∃ f fd,mg x=some (.ref f)∧PySem.W.keepIn K (.ref f)=true∧cH K fd ps []∧dk P w K mg base (CX1 P w) k f fd ps sp
theorem fO {X:Cx} {E:XK} {x:Str} {k:Nat} {ps:List Str} {sp:Sp} {p pos:Pos} {e:Expr} {es:List Expr} {t:TA} (fr:eA X) (D:fY X.prog X.w X.K X.mg X.base x k ps sp) (hr:bN k X.A) (hg:Gl X x) (ha:PA (X.exc E) (e::es) t)
  (hdb:(x==("__debug__":Str))=false:=by decide) (he:starEach (e::es) X.env=(false,eval e X.env)::starEach es X.env:=by rfl) (hpl:(backTo pos (starEach es X.env)).any (·.1)=false:=by rfl) :
  PE (X.exc E) (.Call (.Name x p) (e::es) [] pos) (jP sp [] E t):=by
 obtain⟨f,fd,hm,hk,hb,F⟩:=D
 exact kG (X:=X.exc E) F hr hg hm hk hb .nil (pi fr) ha hdb he hpl
theorem kF {X:Cx} {x:Str} {k:Nat} {ps:List Str} {sp:Sp} {p pos:Pos} {e:Expr} {es:List Expr} {t:TA} (D:Def X.prog X.w X.K X.mg X.base x k ps sp) (hr:bN k X.A) (hg:Gl X x) (ha:PA X (e::es) t)
  (hdb:(x==("__debug__":Str))=false:=by decide) (he:starEach (e::es) X.env=(false,eval e X.env)::starEach es X.env:=by rfl) (hpl:(backTo pos (starEach es X.env)).any (·.1)=false:=by rfl) :
  PE X (.Call (.Name x p) (e::es) [] pos) (jP sp [] E0 t):=aJ D hr hg ha hdb he hpl
theorem jp {X:Cx} {pn:List (Addr×Obj)} (f:eA X):eA (X.pnd pn):=f
theorem aL.mkE {P:Program} {w:World} {K:PySem.W.Frag} {mg:Str→Option Value} {base:Heap} {x:Str} {st:Stmt} {N ps:List Str} {k:Nat} {sp:Sp} (F:aL K mg x st ps) (S:aB N ps (ah st)) (len:∀ vs H Q E,sp vs H Q E→vs.length=ps.length)
  (hbody:∀ (f:Addr) (cdv:Value) (A:Around) (outer:List Env) (s:Shared) (H:Hp) (vs:List V) (Q:VK) (E:XK),bN k (A.deeper (envOfC x (ah st) s.heap.objs.size f cdv))→sp vs H Q E→
   ∃ t,PSs ((jr (CX1 P w) P w K mg base N x (ah st) f cdv A outer s H E).exc E) (b7 st) t∧t {nx:=fun _ H'=>Q .non H',rt:=Q} (cR N vs) H):fY P w K mg base x (k+1) ps sp:=by
 obtain⟨f,fd,Fn,hm,hb⟩:=F.ex
 exact⟨f,fd,hm,Fn.kp,hb,Fn.okE S len (hbody f)⟩
section
variable {X:Cx} {pins:List (Addr×Obj)} {σ:St} {H:Hp} {s:Shared}
theorem Inv.trackO {a:Addr} {o:HO} (I:Inv X pins σ H s) (l:iB X pins H a) (ok:bh X.prog X.w (upd H a o) s.heap a o):Inv X pins σ (upd H a o) s:=by
 have nb:∀ b u,H b=some u→b≠a:=fun b u q=>al q l.un
 refine⟨I.ok,I.os,I.bare,⟨I.base.keep,I.base.slot,fun b o q n hx=>?_,I.base.there,fun b xs q=>?_,fun b o xs q=>?_,fun b ps q=>?_⟩,I.loc,I.cell,?_,fun x c hc=>?_,fun p hp=>?_,fun b u q=>?_,I.len⟩
 ·have : b≠a:=by
   rintro rfl
   rcases l.new with z | z
   ·exact hx z
   ·rw [z] at q; cases q
  rw [ag this]; exact I.base.free b _ q n hx
 ·have:=I.base.tups b xs q
  rw [ag (nb b _ this)]; exact this
 ·have:=I.base.frzs b o xs q
  rw [ag (nb b _ this)]; exact this
 ·obtain⟨m,z⟩:=I.base.tbls b ps q
  exact⟨m,by rw [ag (nb b _ z)]; exact z⟩
 ·rw [ag (Ne.symm l.loc)]; exact I.free
 ·rw [ag (l.cel x c hc)]; exact I.freeC x c hc
 ·obtain⟨e1,n,ne,nf,d⟩:=I.pin p hp
  exact⟨e1,by rw [ag (l.pin p hp)]; exact n,ne,nf,d⟩
 ·by_cases hb:b=a
  ·subst hb
   rw [ac] at q; cases q
   exact ok
  ·rw [ag hb] at q
   exact(I.hok b u q).stay (fun _ _ _ z=>z) (fun c z=>by rw [ag (nb c _ z)]; exact z) fun c xs z=>by rw [ag (nb c _ z)]; exact z
end
section
variable {X:Cx} {elts:List Expr} {k:Nat} {tpos:Pos}
end
end L2
set_option maxHeartbeats 1000000
namespace L2
open PySem PySem.Spec PyProof.Rows
section
variable {X:Cx}
end
end L2
namespace HT
open PySem PySem.Spec PyProof.Rows L2
section
variable {prog:Program} {w:World} {A:Around} {E:Value→Shared→Prop} {s:Shared}
end
end HT
namespace L2
open PySem PySem.Spec PyProof.Rows
section
variable {X:Cx}
end
abbrev CK:=Str×List Int
section
variable {P:Program} {w:World}
def b9 (P:Program) (w:World) (h:Heap) (k:CK) (a:Addr):Prop:=
 ∃ o b t n,h.get? a=some o∧o.cls=.type "tuple"∧o.data=.seq #[.str k.1 t,.ref b] n∧IsTupleKey (PySem.intKind P w) h k.2 b
theorem b9.inj {h:Heap} {a:Addr} {x y:CK} (hx:b9 P w h x a) (hy:b9 P w h y a):x=y:=by
 obtain⟨o,b,t,n,ho,_,hd,hi⟩:=hx
 obtain⟨o',b',t',n',ho',_,hd',hi'⟩:=hy
 obtain rfl:o=o':=Option.some.inj (ho.symm.trans ho')
 rw [hd] at hd'
 injection hd' with h1 _
 have h2:=congrArg Array.toList h1
 simp only [List.cons.injEq,Value.str.injEq,Value.ref.injEq,and_true] at h2
 obtain⟨⟨e1,_⟩,e2⟩:=h2
 subst e2
 exact Prod.ext e1 (hi.inj hi')
theorem b9.keeps {h h':Heap} {k:CK} {a d:Addr} {o:Obj} {es ep} (x:b9 P w h k a) (ho:h.get? d=some o) (hd:o.data=.dict es ep) (hs:Heap.SameBut d h h'):b9 P w h' k a:=by
 obtain⟨o',b,t,n,ho',hc,hd',hi⟩:=x
 have hne:a≠d:=by
  rintro rfl
  obtain rfl:o'=o:=Option.some.inj (ho'.symm.trans ho)
  rw [hd] at hd'; exact nomatch hd'
 exact⟨o',b,t,n,(hs.2 a hne).trans ho',hc,hd',hi.keeps ho hd hs⟩
theorem b9.typeIs {s:Shared} {k:CK} {a:Addr} (x:b9 P w s.heap k a):s.TypeIs (.ref a) "tuple":=let ⟨o,_,_,_,ho,hc,_⟩:=x; ⟨o,ho,hc⟩
def jy (P:Program) (w:World) (k:CK):Int:=reduceHash (Builtin.Tuple.tupleHashOf [(PySem.strKind P w).hash k.1,tupleKeyHash (PySem.intKind P w) k.2])
variable {A:Around} {E:Value→Shared→Prop} {s:Shared}
theorem lQ {k:CK} {a:Addr} {Q:Int→Shared→Prop} (hu:A.units+1<cLine) (hk:b9 P w s.heap k a) (h:Q (jy P w k) {s with toks:=s.toks+(k.2.length+3)}) :
  wpAny (model P w) A (pyHash (.ref a)) Q E s:=by
 have hT:=hk.typeIs
 obtain⟨o,c,t,n,ho,_,hd,hi⟩:=hk
 unfold pyHash
 first | unfold pyHashByItsType | skip
 first | refine wpAny_bind (wpAny_cRoomFor_or (.inr (by omega)) ?_) | skip
 refine wpAny_bind (wpAny_specialOf hT F.slot_tuple_hash.lookup ?_)
 show wpAny _ _ (if (some (Value.builtin "tuple.__hash__")==some Value.none)=true then _ else _) Q E s
 rw [if_neg (by rw [beq_builtin_none]; exact Bool.false_ne_true)]
 refine wpAny_bind (wpAny_specialOf hT F.slot_tuple_hash.lookup ?_)
 show wpAny _ _ (callSpecialIfBoundUnlessNone? (.ref a) "__hash__" _>>=_) Q E s
 refine wpAny_bind (wpAny_callSpecialIfBoundUnlessNone?_slot hT F.slot_tuple_hash (wpAny_call_entry F.slot_tuple_hash hT F.entry_tuple_hash ?_ (F.args_tuple_hash_1 _)))
 show wpAny _ _ (Builtin.Tuple.tupleItemsOf (.ref a)>>=_) _ _ s
 refine wpAny_bind (wpAny_tupleItemsOf ho hd ?_)
 refine wpAny_bind ?_
 rw [← Array.forIn_toList]
 have hst:(PySem.strKind P w).is k.1 (.str k.1 t)=true:=PySem.strKind_is P w k.1 t
 refine wpAny_forIn_list _
  (fun rest (b:Array Int) s'=>(rest=[.str k.1 t,.ref c]∧b.toList=[]∧s'=s)∨(rest=[.ref c]∧b.toList=[(PySem.strKind P w).hash k.1]∧s'={s with toks:=s.toks+1})∨
   (rest=[]∧b.toList=[(PySem.strKind P w).hash k.1,tupleKeyHash (PySem.intKind P w) k.2]∧s'={s with toks:=s.toks+(k.2.length+2)}))
  _ ?_ ?_ _ _ (.inl ⟨rfl,rfl,rfl⟩)
 ·rintro x rest b s' (⟨e,hb,rfl⟩ | ⟨e,hb,rfl⟩ | ⟨e,hb,rfl⟩)
  ·simp only [List.cons.injEq] at e
   obtain⟨rfl,rfl⟩:=e
   refine wpAny_bind ((PySem.strKind P w).pyHash hst ?_)
   first
    | exact wpAny_pure (.inr (.inl ⟨rfl,by simp [hb],rfl⟩))
    | exact wpAny_bind (wpAny_pure (wpAny_pure (.inr (.inl ⟨rfl,by simp [hb],rfl⟩))))
  ·simp only [List.cons.injEq] at e
   obtain⟨rfl,rfl⟩:=e
   refine wpAny_bind (wpAny_pyHash_tuple (knd:=PySem.intKind P w) (ks:=k.2) hu hi ?_)
   first
    | exact wpAny_pure (.inr (.inr ⟨rfl,by simp [hb],by simp only [Shared.mk.injEq,true_and,and_true]; omega⟩))
    | exact wpAny_bind (wpAny_pure (wpAny_pure (.inr (.inr ⟨rfl,by simp [hb],by simp only [Shared.mk.injEq,true_and,and_true]; omega⟩))))
  ·exact nomatch e
 ·rintro b s' (⟨e,hb,rfl⟩ | ⟨e,hb,rfl⟩ | ⟨e,hb,rfl⟩)
  ·exact nomatch e
  ·exact nomatch e
  ·show wpAny _ _ (retInt (Builtin.Tuple.tupleHashOf b.toList)) _ _ _
   rw [hb]
   refine wpAny_ret_mkInt ?_
   show wpAny _ _ (if (decide (-(2:Int) ^ 63≤Builtin.Tuple.tupleHashOf [(PySem.strKind P w).hash k.1,tupleKeyHash (PySem.intKind P w) k.2])&&decide (Builtin.Tuple.tupleHashOf [(PySem.strKind P w).hash k.1,tupleKeyHash (PySem.intKind P w) k.2]<2 ^ 63))=true then _ else _) Q E _
   unfold jy reduceHash at h
   have e3:s.toks+(k.2.length+2)+1=s.toks+(k.2.length+3):=by omega
   by_cases hr:(decide (-(2:Int) ^ 63≤Builtin.Tuple.tupleHashOf [(PySem.strKind P w).hash k.1,tupleKeyHash (PySem.intKind P w) k.2])&&decide (Builtin.Tuple.tupleHashOf [(PySem.strKind P w).hash k.1,tupleKeyHash (PySem.intKind P w) k.2]<2 ^ 63))=true
   ·rw [if_pos hr]
    rw [if_pos hr] at h
    exact wpAny_pure (by rw [← e3] at h; exact h)
   ·rw [if_neg hr]
    rw [if_neg hr] at h
    exact wpAny_bind (wpAny_rule (wpAny_pure (by rw [← e3] at h; exact h)))
theorem kT {x y:CK} {a b:Addr} {R:Fin→Shared→Prop} (hu:A.units<cLine) (hx:b9 P w s.heap x a) (hy:b9 P w s.heap y b) (h:R (.done (.ret (.bool (decide (x=y))))) s) :
  wpAny (model P w) A (Builtin.«tuple.__eq__» ⟨[.ref a,.ref b],[]⟩) R E s:=by
 have hTb:=hy.typeIs
 obtain⟨oa,c,t,na,hoa,_,hda,hia⟩:=hx
 obtain⟨ob,d,t',nb,hob,_,hdb,hib⟩:=hy
 have hst:(PySem.strKind P w).is x.1 (.str x.1 t)=true:=PySem.strKind_is P w x.1 t
 have hst':(PySem.strKind P w).is y.1 (.str y.1 t')=true:=PySem.strKind_is P w y.1 t'
 show wpAny _ _ (isInstance (.ref b) (.type "tuple")>>=_) _ _ s
 refine wpAny_bind (wpAny_isInstance hTb isSubtype_tuple_tuple ?_)
 simp only [Bool.not_true,Bool.false_eq_true,if_false]
 refine wpAny_bind (wpAny_tupleItemsOf hoa hda ?_)
 refine wpAny_bind (wpAny_tupleItemsOf hob hdb ?_)
 refine wpAny_bind ?_
 refine wpAny_forIn_list _
  (fun rest r s'=>r.1=none∧s'=s∧(rest=[(.str x.1 t,.str y.1 t'),(.ref c,.ref d)]∨(rest=[(.ref c,.ref d)]∧x.1=y.1)∨(rest=[]∧x=y)))
  _ ?_ ?_ _ _ ⟨rfl,rfl,.inl rfl⟩
 ·rintro⟨u,v⟩ rest r s' ⟨hr,rfl,e | ⟨e,e1⟩ | ⟨e,e1⟩⟩
  ·simp only [List.cons.injEq,Prod.mk.injEq] at e
   obtain⟨⟨rfl,rfl⟩,rfl⟩:=e
   refine wpAny_bind ((PySem.strKind P w).eqBool (a:=x.1) (b:=y.1) hst hst' ?_)
   by_cases hk:x.1=y.1
   ·rw [decide_eq_true hk]
    simp only [Bool.not_true,Bool.false_eq_true,if_false]
    exact wpAny_pure ⟨rfl,rfl,.inr (.inl ⟨trivial,hk⟩)⟩
   ·rw [decide_eq_false hk]
    simp only [Bool.not_false,if_true]
    have hf:decide (x=y)=false:=decide_eq_false fun z=>hk (congrArg Prod.fst z)
    rw [hf] at h
    exact wpAny_bind (wpAny_pure (wpAny_pure (wpAny_pure h)))
  ·simp only [List.cons.injEq,Prod.mk.injEq] at e
   obtain⟨⟨rfl,rfl⟩,rfl⟩:=e
   refine wpAny_bind (wpAny_eqBool_tuple (knd:=PySem.intKind P w) (x:=x.2) (y:=y.2) hu hia hib ?_)
   by_cases hk:x.2=y.2
   ·rw [decide_eq_true hk]
    simp only [Bool.not_true,Bool.false_eq_true,if_false]
    exact wpAny_pure ⟨rfl,rfl,.inr (.inr ⟨trivial,Prod.ext e1 hk⟩)⟩
   ·rw [decide_eq_false hk]
    simp only [Bool.not_false,if_true]
    have hf:decide (x=y)=false:=decide_eq_false fun z=>hk (congrArg Prod.snd z)
    rw [hf] at h
    exact wpAny_bind (wpAny_pure (wpAny_pure (wpAny_pure h)))
  ·exact nomatch e
 ·rintro⟨r1,r2⟩ s' ⟨hr,rfl,e | ⟨e,e1⟩ | ⟨e,e1⟩⟩
  ·exact nomatch e
  ·exact nomatch e
  ·simp only at hr
   subst hr
   refine wpAny_pure ?_
   rw [decide_eq_true e1] at h
   exact h
theorem mH {x y:CK} {a b:Addr} {Q:Bool→Shared→Prop} (hu:A.units+1<cLine) (hx:b9 P w s.heap x a) (hy:b9 P w s.heap y b) (h:Q (decide (x=y)) s) :
  wpAny (model P w) A (eqBool (.ref a) (.ref b)) Q E s:=by
 unfold eqBool
 try with_reducible refine wpAny_holding ?_
 show wpAny _ _ (if (Value.ref a==Value.ref b)=true then _ else _) Q E s
 by_cases hab:(Value.ref a==Value.ref b)=true
 ·rw [if_pos hab]
  have e:a=b:=by have:=eq_of_beq hab; injection this
  subst e
  obtain rfl:=hx.inj hy
  exact wpAny_bind (wpAny_rule (wpAny_pure (by simpa using h)))
 ·rw [if_neg hab]
  exact wpAny_bind (wpAny_richCompare_same_room (op:=.Eq) hx.typeIs hy.typeIs F.slot_tuple_eq
   (wpAny_call_entry F.slot_tuple_eq hx.typeIs F.entry_tuple_eq (kT hu hx hy ⟨_,rfl,(fun e=>nomatch e),wpAny_truthy_bool h⟩) (F.args_tuple_eq_2 _ _)) (by omega))
theorem nB {K:Type} [DecidableEq K] {knd:KeyKind P w K} {ks:List K} {a:Addr} {Q:Bool→Shared→Prop} (n:Nat) (hk:IsTupleKey knd s.heap ks a) (h:Q true s):wpAny (model P w) A (eqIsQuiet (n+1) (.ref a)) Q E s:=by
 have hT:=hk.typeIs
 obtain⟨o,items,m,ho,_,hd,hi⟩:=hk
 unfold eqIsQuiet
 refine wpAny_bind (wpAny_specialOf hT F.slot_tuple_eq.lookup ?_)
 show wpAny _ _ (isInstance (.ref a) (.type "tuple")>>=_) _ _ s
 refine wpAny_bind (wpAny_isInstance hT isSubtype_tuple_tuple ?_)
 simp only [Bool.not_true,Bool.false_eq_true,if_false]
 refine wpAny_bind (wpAny_seqItems ho hd ?_)
 refine wpAny_bind ?_
 show wpAny _ _ (forIn items _ _) _ _ s
 rw [← Array.forIn_toList]
 refine wpAny_forIn_list _ (fun rest r s'=>r.1=none∧s'=s∧∀ v∈rest,carriedByValue v=true) _ ?_ ?_ _ _ ⟨rfl,rfl,hi.byValue⟩
 ·rintro v rest r s' ⟨hr,rfl,hall⟩
  rw [eqIsQuiet_byValue _ (hall v List.mem_cons_self)]
  refine wpAny_bind (wpAny_pure ?_)
  simp only [Bool.not_true,Bool.false_eq_true,if_false]
  exact wpAny_pure ⟨rfl,rfl,fun u hu'=>hall u (List.mem_cons_of_mem _ hu')⟩
 ·rintro⟨r1,r2⟩ s' ⟨hr,rfl,_⟩
  simp only at hr
  subst hr
  exact wpAny_pure h
theorem nE {k:CK} {a:Addr} {Q:Bool→Shared→Prop} (hk:b9 P w s.heap k a) (h:Q true s):wpAny (model P w) A (eqIsQuiet 8 (.ref a)) Q E s:=by
 have hT:=hk.typeIs
 obtain⟨o,c,t,m,ho,_,hd,hi⟩:=hk
 unfold eqIsQuiet
 refine wpAny_bind (wpAny_specialOf hT F.slot_tuple_eq.lookup ?_)
 show wpAny _ _ (isInstance (.ref a) (.type "tuple")>>=_) _ _ s
 refine wpAny_bind (wpAny_isInstance hT isSubtype_tuple_tuple ?_)
 simp only [Bool.not_true,Bool.false_eq_true,if_false]
 refine wpAny_bind (wpAny_seqItems ho hd ?_)
 refine wpAny_bind ?_
 show wpAny _ _ (forIn #[Value.str k.1 t,.ref c] _ _) _ _ s
 rw [← Array.forIn_toList]
 refine wpAny_forIn_list _ (fun rest r s'=>r.1=none∧s'=s∧∀ v∈rest,carriedByValue v=true∨v=.ref c) _ ?_ ?_ _ _ ⟨rfl,rfl,fun v hv=>by simp at hv; rcases hv with rfl | rfl; exact .inl rfl; exact .inr rfl⟩
 ·rintro v rest r s' ⟨hr,rfl,hall⟩
  have go:wpAny (model P w) A (eqIsQuiet 7 v) (fun b s1=>b=true∧s1=s') E s':=by
   rcases hall v List.mem_cons_self with e | rfl
   ·rw [eqIsQuiet_byValue _ e]; exact wpAny_pure ⟨rfl,rfl⟩
   ·exact nB 6 hi ⟨rfl,rfl⟩
  refine wpAny_bind (wpAny_mono go ?_ fun _ _ z=>z)
  rintro b s1 ⟨rfl,rfl⟩
  simp only [Bool.not_true,Bool.false_eq_true,if_false]
  exact wpAny_pure ⟨rfl,rfl,fun u hu'=>hall u (List.mem_cons_of_mem _ hu')⟩
 ·rintro⟨r1,r2⟩ s' ⟨hr,rfl,_⟩
  simp only at hr
  subst hr
  exact wpAny_pure h
def fJ (P:Program) (w:World):HeapKind P w CK where
 is:=b9 P w
 hash:=jy P w
 draws:=fun k=>k.2.length+3
 room:=fun A=>A.units+1<cLine
 inj:=fun hx hy=>hx.inj hy
 keeps:=fun x ho hd hs=>x.keeps ho hd hs
 pyHash:=fun hu hk h=>lQ hu hk h
 eqBool:=fun hu hx hy h=>mH hu hx hy h
 quiet:=fun hk h=>nE hk h
end
def Raw (h:Heap) (d:Addr) (es:Array DictEntry) (ep:Nat):Prop:=∃ o,h.get? d=some o∧o.ExactDict∧o.data=.dict es ep
theorem Raw.typeIs {s:Shared} {d:Addr} {es:Array DictEntry} {ep:Nat} (m:Raw s.heap d es ep):s.TypeIs (.ref d) "dict":=let ⟨o,ho,hc,_⟩:=m; ⟨o,ho,hc.1⟩
theorem Raw.at {h h':Heap} {d:Addr} {es:Array DictEntry} {ep:Nat} (m:Raw h d es ep) (k:∀ o,h.get? d=some o→h'.get? d=some o):Raw h' d es ep:=let ⟨o,ho,r⟩:=m; ⟨o,k o ho,r⟩
section
variable {P:Program} {w:World} {A:Around} {E:Value→Shared→Prop} {s:Shared} {d it:Addr} {es:Array DictEntry} {ep i:Nat}
end
abbrev CD:=List (CK×Addr×V)
def iQ (cd:CD) (k:CK):Option V:=(cd.find? fun x=>decide (x.1=k)).map (·.2.2)
def fV (cd:CD) (k:CK) (q:Addr) (v:V):CD:=if (iQ cd k).isSome then cd.map (fun x=>if x.1=k then (x.1,x.2.1,v) else x) else cd++[(k,q,v)]
theorem rJ {cd:CD} {k:CK} (h:iQ cd k=none) (q:Addr) (v:V):fV cd k q v=cd++[(k,q,v)]:=by unfold fV; rw [h]; rfl
theorem pP {cd:CD} {k:CK} (h:¬ k∈cd.map (·.1)):iQ cd k=none:=by
 unfold iQ
 rw [List.find?_eq_none.mpr fun x hx e=>h (List.mem_map.mpr ⟨x,hx,of_decide_eq_true e⟩)]
 rfl
theorem pO {cd:CD} (hn:(cd.map (·.1)).Nodup) {k:CK} {q:Addr} {v:V} (h:(k,q,v)∈cd):iQ cd k=some v:=by
 induction cd with
 | nil=>exact nomatch h
 | cons x r ih=>
  rw [List.map_cons,List.nodup_cons] at hn
  rcases List.mem_cons.mp h with e | h
  ·subst e; simp [iQ]
  ·have : ¬ x.1=k:=fun e=>hn.1 (List.mem_map.mpr ⟨_,h,e.symm⟩)
   have:=ih hn.2 h
   simp only [iQ,List.find?_cons] at this ⊢
   rw [decide_eq_false ‹_›]
   exact this
abbrev jF:CD→List (CK×Addr×Value)→Prop:=Paired fun p q=>p.1=q.1∧p.2.1=q.2.1∧aM p.2.2 q.2.2
theorem jF.val {cd:CD} {xs:List (CK×Addr×Value)} (r:jF cd xs) (k:CK):fK (iQ cd k) ((atKey xs k).map (·.2)):=by
 induction r with
 | nil=>exact True.intro
 | @cons p q _ _ h t ih=>
  obtain⟨e1,e2,e3⟩:=h
  by_cases hk:p.1=k
  ·have a:decide (q.1=k)=true:=decide_eq_true (e1▸hk)
   simp only [iQ,atKey,List.find?_cons,decide_eq_true hk,a,Option.map_some]
   exact e3
  ·have a:decide (q.1=k)=false:=decide_eq_false (e1▸hk)
   simp only [iQ,atKey,List.find?_cons,decide_eq_false hk,a] at ih ⊢
   exact ih
theorem jF.keys {cd:CD} {xs:List (CK×Addr×Value)} (r:jF cd xs):cd.map (·.1)=xs.map (·.1):=by
 induction r with
 | nil=>rfl
 | cons h _ ih=>rw [List.map_cons,List.map_cons,ih,h.1]
theorem jF.put {cd:CD} {xs:List (CK×Addr×Value)} (r:jF cd xs) (k:CK) (q:Addr) {v:V} {u:Value} (rv:aM v u):jF (fV cd k q v) (storedH xs k q u):=by
 have hs:=(r.val k).isSome_eq
 rw [Option.isSome_map] at hs
 unfold fV storedH
 rw [hs]
 by_cases c:(atKey xs k).isSome=true
 ·rw [if_pos c,if_pos c]
  clear hs c
  induction r with
  | nil=>exact .nil
  | @cons p q _ _ h t ih=>
   rw [List.map_cons,List.map_cons]
   refine .cons ?_ ih
   obtain⟨e1,e2,e3⟩:=h
   by_cases hk:p.1=k
   ·rw [if_pos hk,putAt,if_pos (e1▸hk)]; exact⟨e1,e2,rv⟩
   ·rw [if_neg hk,putAt,if_neg (e1▸hk)]; exact⟨e1,e2,e3⟩
 ·rw [if_neg c,if_neg c]
  clear hs c
  induction r with
  | nil=>exact .cons ⟨rfl,rfl,rv⟩ .nil
  | cons h _ ih=>exact .cons h ih
theorem nG {cd:CD} (h:(cd.map (·.1)).Nodup) (k:CK) (q:Addr) (v:V):((fV cd k q v).map (·.1)).Nodup:=by
 unfold fV
 by_cases c:(iQ cd k).isSome=true
 ·rw [if_pos c,List.map_map]
  have : ((fun x=>x.1)∘fun x:CK×Addr×V=>if x.1=k then (x.1,x.2.1,v) else x)=fun x=>x.1:=by funext x; show (if x.1=k then _ else x).1=x.1; split <;> rfl
  rw [this]; exact h
 ·rw [if_neg c,List.map_append,List.nodup_append]
  refine⟨h,by simp,fun a ha b hb=>?_⟩
  simp only [List.map_cons,List.map_nil,List.mem_singleton] at hb
  subst hb
  rintro rfl
  obtain⟨x,hx,rfl⟩:=List.mem_map.mp ha
  exact c (by rw [pO h (show (x.1,x.2.1,x.2.2)∈cd from hx)]; rfl)
theorem lR (cd:CD) (k:CK) (q:Addr) (v:V):(fV cd k q v).length≤cd.length+1:=by
 unfold fV
 split
 ·rw [List.length_map]; omega
 ·simp
def bu (P:Program) (w:World) (a:Addr) (cd:CD):HO:=.ext fun h=>cd.length≤sizeLine∧(a==sysModules)=false∧(cd.map (·.1)).Nodup∧∃ xs ep,jF cd xs∧Raw h a (xs.map (entryOfKey (fJ P w))).toArray ep
def dD (H:Hp) (k:CK) (q:Addr):Prop:=∃ b,H q=some (.tup [.str k.1,.ref b])∧H b=some (.tup (k.2.map V.int))
def dO (H:Hp) (cd:CD):Prop:=∀ x∈cd,dD H x.1 x.2.1
theorem dD.keep {H H':Hp} {k:CK} {q:Addr} (h:dD H k q) (t:∀ a xs,H a=some (.tup xs)→H' a=some (.tup xs)):dD H' k q:=let ⟨b,x,y⟩:=h; ⟨b,t _ _ x,t _ _ y⟩
theorem dO.keep {H H':Hp} {cd:CD} (h:dO H cd) (t:∀ a xs,H a=some (.tup xs)→H' a=some (.tup xs)):dO H' cd:=fun x hx=>(h x hx).keep t
theorem dO.put {H:Hp} {cd:CD} (h:dO H cd) {k:CK} {q:Addr} (c:dD H k q) (v:V):dO H (fV cd k q v):=by
 intro x hx
 unfold fV at hx
 split at hx
 ·obtain⟨y,hy,rfl⟩:=List.mem_map.mp hx
  split
  ·exact h y hy
  ·exact h y hy
 ·rcases List.mem_append.mp hx with hx | hx
  ·exact h x hx
  ·rw [List.mem_singleton.mp hx]; exact c
section
variable {P:Program} {w:World} {H:Hp} {h:Heap} {a:Addr}
theorem mn:∀ {ns:List Int} {us:List Value},aI (ns.map V.int) us→ItemsAre (PySem.intKind P w) ns us
 | [],_,.nil=>.nil
 | n::ns,_,.cons r t=>by
  obtain⟨k,rfl⟩:=r
  exact .cons (by simp [PySem.intKind,Value.isInt]) (mn t)
theorem dD.key {k:CK} {q:Addr} (c:dD H k q) (ok:HOk P w H h):b9 P w h k q:=by
 obtain⟨b,hq,hb⟩:=c
 obtain⟨_,its,r,o,h1,h2,n,h3⟩:=(show bh P w H h q (.tup [.str k.1,.ref b]) from ok q _ hq)
 obtain⟨_,its',r',o',h1',h2',n',h3'⟩:=(show bh P w H h b (.tup (k.2.map V.int)) from ok b _ hb)
 cases r with
 | cons r1 t1=>cases t1 with
  | cons r2 t2=>cases t2 with
   | nil=>
    obtain⟨t,rfl⟩:=r1
    obtain rfl:=r2
    exact⟨o,b,t,n,h1,h2,h3,o',its'.toArray,n',h1',h2',h3',by simpa using mn r'⟩
theorem yB {cd:CD} (ok:HOk P w H h) (e:H a=some (bu P w a cd)) (ks:dO H cd) :
  cd.length≤sizeLine∧(a==sysModules)=false∧∃ xs,jF cd xs∧h.DictOfH (fJ P w) a xs:=by
 obtain⟨⟨hl,hs,hn,xs,ep,r,o,ho,hx,hd⟩,_⟩:=(show bh P w H h a (bu P w a cd) from ok a _ e)
 refine⟨hl,hs,xs,r,o,_,ep,ho,hx,hd,by simp,?_,by rw [← r.keys]; exact hn⟩
 have all:∀ {l:CD} {m:List (CK×Addr×Value)},jF l m→(∀ x∈l,dD H x.1 x.2.1)→∀ x∈m,b9 P w h x.1 x.2.1:=by
  intro l m q
  induction q with
  | nil=>intro _ x hx; exact nomatch hx
  | @cons p q ps qs hq t ih=>
   intro hc x hx
   rcases List.mem_cons.mp hx with e | hx
   ·subst e
    have:=(hc p List.mem_cons_self).key ok
    rw [hq.1,hq.2.1] at this
    exact this
   ·exact ih (fun y hy=>hc y (List.mem_cons_of_mem _ hy)) x hx
 exact all r ks
theorem j6 {cd:CD} {xs:List (CK×Addr×Value)} (hl:cd.length≤sizeLine) (hs:(a==sysModules)=false) (hn:(cd.map (·.1)).Nodup) (r:jF cd xs) {H':Hp} (d:h.DictOfH (fJ P w) a xs):bh P w H' h a (bu P w a cd):=by
 obtain⟨o,es,ep,ho,hx,hd,he,_,_⟩:=d
 have e:es=(xs.map (entryOfKey (fJ P w))).toArray:=by rw [← he]
 subst e
 refine⟨⟨hl,hs,hn,xs,ep,r,o,ho,hx,hd⟩,⟨o,ho⟩,?_⟩
 rintro h1 h2 ⟨a1,a2,a3,ys,ep',r',m⟩ k
 exact⟨a1,a2,a3,ys,ep',r',m.at k⟩
end
section
variable {X:Cx} {pins:List (Addr×Obj)} {σ:St} {H:Hp} {s:Shared} {a q:Addr} {cd:CD} {k:CK} {v:V} {r:Value} {A:Around} {E:Value→Shared→Prop}
theorem qO {Q:Unit→Shared→Prop} (hu:A.units+2<cLine) (I:Inv X pins σ H s) (e:H a=some (bu X.prog X.w a cd)) (ks:dO H cd) (c:dD H k q) (hl:cd.length<sizeLine) (rv:aM v r) (h:∀ s',Inv X pins σ (upd H a (bu X.prog X.w a (fV cd k q v))) s'→Q () s') :
  wpAny (model X.prog X.w) A (setItem (.ref a) (.ref q) r) Q E s:=by
 obtain⟨z,hd,xs,rel,dd⟩:=yB I.hok e ks
 have hn:(cd.map (·.1)).Nodup:=by
  obtain⟨⟨_,_,hn,_⟩,_⟩:=(show bh X.prog X.w H s.heap a (bu X.prog X.w a cd) from I.hok a _ e)
  exact hn
 refine wpAny_setItem_heap (knd:=fJ X.prog X.w) (hsz:=by rw [← Paired.length rel]; exact z) (show A.in1.units+1<cLine from hu) (c.key I.hok) dd fun h' dd' hs=>h _ ?_
 refine vm I (by rw [e]; exact True.intro) hs (let ⟨o,_,_,ho,_⟩:=dd'; ⟨o,ho⟩) (j6 ?_ hd (nG hn _ _ _) (rel.put k q rv) dd')
 have:=lR cd k q v
 omega
end
def xS (P:Program) (w:World) (td ty tv:TE):TS:=fun D σ H=>tv σ H fun v H1=>td σ H1 fun x H2=>ty σ H2 fun y H3=>∃ a q cd k,x=.ref a∧y=.ref q∧H3 a=some (bu P w a cd)∧dO H3 cd∧dD H3 k q∧cd.length<sizeLine∧D.nx σ (upd H3 a (bu P w a (fV cd k q v)))
def xH (P:Program) (w:World):TE:=fun _ H Q=>∀ p,H p=none→Q (.ref p) (upd H p (bu P w p []))
section
variable {X:Cx} {o i e value:Expr} {pos pos' tpos:Pos} {td ty tv:TE}
theorem pc (hu:X.A.units+2<cLine) (ho:PE X o td) (hi:PE X i ty) (hv:PE X value tv) (hs:swapsWith value (some (.Subscript o i pos')) pos.line X.env=pure false) :
  PS X (.Assign [.Subscript o i pos'] value pos) (xS X.prog X.w td ty tv):=by
 intro pins s σ H D I h
 refine wpAny_Assign_Subscript (thn (hv pins s σ H _ I h) fun r s1 ⟨v,H1,I1,rv,q1⟩=>thn (ho pins s1 σ H1 _ I1 q1) fun u s2 ⟨x,H2,I2,rx,q2⟩=>thn (hi pins s2 σ H2 _ I2 q2) fun iv s3 ⟨y,H3,I3,ry,a,q,cd,k,ex,ey,ea,ks,c,hl,q3⟩=>?_) hs
 subst ex ey
 obtain rfl:u=Value.ref a:=rx
 obtain rfl:iv=Value.ref q:=ry
 exact qO hu I3 ea ks c hl rv fun s4 I4=>⟨σ,_,I4,q3⟩
theorem uO:PE X (.Dict [] [] pos) (xH X.prog X.w):=fun pins s σ H Q I h=>
 wpAny_Dict_empty ⟨.ref s.heap.objs.size,_,I.laid (a:=s.heap.objs.size) (o:=bu X.prog X.w s.heap.objs.size []) (t':=s.toks) (fun _ _ q=>Heap.get?_push_of_some _ q) (Nat.le_refl _)
  (j6 (cd:=[]) (xs:=[]) (Nat.zero_le _) (beq_eq_false_iff_ne.mpr (Ne.symm (Nat.ne_of_lt I.big))) List.nodup_nil .nil (Heap.DictOfH.new s.heap)),rfl,h _ (I.hok.fresh (Nat.le_refl _))⟩
end
structure lj (P:Program) (w:World) (i l:Addr) (xs:Array Value) (It:Nat→Heap→Prop):Prop where
 item:∀ (A:Around) (s:Shared) (k:Nat) (x:Value) (Q:Value→Shared→Prop) (E:Value→Shared→Prop),It k s.heap→xs[k]? = some x→
  (∀ h',It (k+1) h'→Heap.SameBut i s.heap h'→Q x {s with heap:=h'})→wpAny (model P w) A (Builtin.SmallTypes.nextOf (.ref i)) Q E s
 fin:∀ (A:Around) (s:Shared) (k:Nat) (Q:Value→Shared→Prop) (E:Value→Shared→Prop),A.handled=none→It k s.heap→xs[k]? = none→
  (∀ h' e,Heap.ExtBut i s.heap h'→(∃ o,h'.get? e=some o∧o.cls=.type "StopIteration")→E (.ref e) {s with heap:=h'})→wpAny (model P w) A (Builtin.SmallTypes.nextOf (.ref i)) Q E s
 keep:∀ (h h':Heap) (k:Nat),It k h→(∀ b,b=i∨b=l→∀ o,h.get? b=some o→h'.get? b=some o)→It k h'
section
variable {P:Program} {w:World}
theorem ig (i l:Addr) (xs:Array Value) (hne:l≠i):lj P w i l xs fun k h=>h.IsListIter i l k∧h.IsList l xs where
 item:=fun A s k x Q E st hx hQ=>wpAny_nextOf_list_item st.1 st.2 hx fun h' it' hs=>hQ h' ⟨it',st.2.extBut hs.extBut hne⟩ hs
 fin:=fun A s k Q E hh st hx hE=>wpAny_nextOf_list_end hh st.1 st.2 hx hE
 keep:=fun h h' k st hk=>⟨st.1.at fun o e=>hk i (.inl rfl) o e,st.2.at fun o e=>hk l (.inr rfl) o e⟩
section
variable {A:Around} {E:Value→Shared→Prop} {s:Shared}
theorem qY {it t:Addr} {k:Nat} {items:Array Value} {x:Value} {Q:Value→Shared→Prop} (hit:s.heap.IsTupleIter it t k) (ht:s.heap.IsTuple t items) (hx:items[k]? = some x)
  (hQ:∀ h',h'.IsTupleIter it t (k+1)→Heap.SameBut it s.heap h'→Q x {s with heap:=h'}):wpAny (model P w) A (Builtin.SmallTypes.nextOf (.ref it)) Q E s:=by
 obtain⟨o,ho,hc,hd⟩:=id hit
 obtain⟨ol,hol,_,nl,hdl⟩:=ht
 unfold Builtin.SmallTypes.nextOf
 refine wpAny_bind (wpAny_callSpecial?_slot (name:=Str.ofString "__next__") hit.typeIs F.slot_tuple_iterator_next (wpAny_call_entry F.slot_tuple_iterator_next hit.typeIs F.entry_tuple_iterator_next ?_ (F.args_tuple_iterator_next_1 _)))
 show wpAny _ _ (field (.ref it) 0>>=_) _ _ s
 refine wpAny_bind (wpAny_field ho hd (x:=.ref t) rfl ?_)
 show wpAny _ _ (if (Value.ref t==Value.none)=true then _ else _) _ _ s
 rw [if_neg (show ¬ ((Value.ref t==Value.none)=true) from Bool.false_ne_true)]
 show wpAny _ _ (field (.ref it) 1>>=_) _ _ s
 refine wpAny_bind (wpAny_field ho hd (x:=.int k 0) rfl ?_)
 show wpAny _ _ (seqItems? (.ref t)>>=_) _ _ s
 refine wpAny_bind (wpAny_seqItems hol hdl ?_)
 simp only [Int.toNat_natCast,hx]
 refine wpAny_bind (wpAny_setField ho hd (by simp) (wpAny_pure ⟨x,rfl,wpAny_pure (hQ _ ⟨_,Heap.get?_update_self _ ho (Obj.isFreed_of_fields (Obj.data_mapFields hd _)),(Obj.cls_mapFields ..).trans hc,?_⟩ (Heap.SameBut.update ..))⟩))
 rw [Obj.data_mapFields hd]; simp [rawInt]
theorem uk {it t:Addr} {k:Nat} {items:Array Value} {Q:Value→Shared→Prop} (hh:A.handled=none) (hit:s.heap.IsTupleIter it t k) (ht:s.heap.IsTuple t items) (hx:items[k]? = none)
  (hE:∀ h' e,Heap.ExtBut it s.heap h'→(∃ o,h'.get? e=some o∧o.cls=.type "StopIteration")→E (.ref e) {s with heap:=h'}):wpAny (model P w) A (Builtin.SmallTypes.nextOf (.ref it)) Q E s:=by
 obtain⟨o,ho,hc,hd⟩:=id hit
 obtain⟨ol,hol,_,nl,hdl⟩:=ht
 unfold Builtin.SmallTypes.nextOf
 refine wpAny_bind (wpAny_callSpecial?_slot (name:=Str.ofString "__next__") hit.typeIs F.slot_tuple_iterator_next (wpAny_call_entry F.slot_tuple_iterator_next hit.typeIs F.entry_tuple_iterator_next ?_ (F.args_tuple_iterator_next_1 _)))
 show wpAny _ _ (field (.ref it) 0>>=_) _ _ s
 refine wpAny_bind (wpAny_field ho hd (x:=.ref t) rfl ?_)
 show wpAny _ _ (if (Value.ref t==Value.none)=true then _ else _) _ _ s
 rw [if_neg (show ¬ ((Value.ref t==Value.none)=true) from Bool.false_ne_true)]
 show wpAny _ _ (field (.ref it) 1>>=_) _ _ s
 refine wpAny_bind (wpAny_field ho hd (x:=.int k 0) rfl ?_)
 show wpAny _ _ (seqItems? (.ref t)>>=_) _ _ s
 refine wpAny_bind (wpAny_seqItems hol hdl ?_)
 simp only [Int.toNat_natCast,hx]
 refine wpAny_bind (wpAny_rule (wpAny_bind (wpAny_setField ho hd (by simp) ?_)))
 show wpAny _ _ (newExc (.type "StopIteration") []>>=_) _ _ _
 refine wpAny_bind ?_
 simp only [newExc,newTuple]
 refine wpAny_bind (wpAny_newObj_type ?_ (by size_fits))
 refine wpAny_bind (m:=firstArgMember _ _) (wpAny_of_eq (a:=Value.none) (by first | rfl | (simp only [firstArgMember]; rfl)) ?_)
 refine wpAny_newObj_type ?_ (by size_fits)
 simp only [raiseNew]
 refine wpAny_bind (wpAny_handled ?_)
 rw [show A.in1.handled=none from hh]
 refine wpAny_bind (wpAny_pure (wpAny_throw ?_))
 exact hE _ _ (((Heap.SameBut.update ..).extBut.push _).push _) ⟨_,Heap.get?_push_size _ rfl,rfl⟩
end
theorem tO (i l:Addr) (xs:Array Value) (hne:l≠i):lj P w i l xs fun k h=>h.IsTupleIter i l k∧h.IsTuple l xs where
 item:=fun A s k x Q E st hx hQ=>qY st.1 st.2 hx fun h' it' hs=>hQ h' ⟨it',st.2.extBut hs.extBut hne⟩ hs
 fin:=fun A s k Q E hh st hx hE=>uk hh st.1 st.2 hx hE
 keep:=fun h h' k st hk=>⟨let ⟨o,ho,r⟩:=st.1; ⟨o,hk i (.inl rfl) o ho,r⟩,let ⟨o,ho,r⟩:=st.2; ⟨o,hk l (.inr rfl) o ho,r⟩⟩
end
abbrev ZAt (h:Heap) (z TI TO:Addr) (f0:Value) (f1:Bool):Prop:=
 h.get? z=some {cls:=.type "zip",dict:=none,data:=.fields #[f0,.bool f1,.bool false,.ref TI,.ref TO],slots:=#[]}
structure ZSt (It1 It2:Nat→Heap→Prop) (z TI TO i1 i2:Addr) (k:Nat) (h:Heap):Prop where
 z:∃ f0 f1,ZAt h z TI TO f0 f1∧(f0=.none∨∃ (T:Addr) (o:Obj),f0=rawInt (T:Int)∧h.get? T=some o∧T≠z∧T≠TO∧T≠i1∧T≠i2)
 ti:IsPair h TI (.ref i1) (.ref i2)
 to:∃ a b,IsPair h TO a b
 a:It1 k h
 b:It2 k h
section
variable {P:Program} {w:World} {A:Around} {E:Value→Shared→Prop} {s:Shared} {It1 It2:Nat→Heap→Prop} {z TI TO i1 i2 l1 l2:Addr} {xs ys:Array Value} {k:Nat} {x y:Value}
theorem wg (hi:∀ k h,It1 k h→i1<h.objs.size) (hi':∀ k h,It2 k h→i2<h.objs.size) {Q:Option Value→Shared→Prop} (D:ZipApart z TI TO i1 i2 l1 l2) (F1:lj P w i1 l1 xs It1) (F2:lj P w i2 l2 ys It2) (st:ZSt It1 It2 z TI TO i1 i2 k s.heap) (hx:xs[k]? = some x) (hy:ys[k]? = some y)
  (hQ:∀ h',ZSt It1 It2 z TI TO i1 i2 (k+1) h'→IsPair h' s.heap.objs.size x y→(∀ c o,c≠z→c≠TO→c≠i1→c≠i2→s.heap.get? c=some o→h'.get? c=some o)→Q (some (.ref s.heap.objs.size)) {s with heap:=h'}) :
  wpAny (model P w) A (pyNext (.ref z)) Q E s:=by
 obtain⟨⟨f0,f1,hz,hf⟩,hTI,⟨a,b,hTO⟩,h1,h2⟩:=st
 have hT:s.TypeIs (.ref z) "zip":=⟨_,hz,rfl⟩
 have hzl:=Heap.lt_size hz
 have hTOl:=Heap.lt_size hTO
 have hi1l:=hi _ _ h1
 have hi2l:=hi' _ _ h2
 unfold pyNext
 refine wpAny_bind (wpAny_attempt (wpAny_callSpecial?_slot (name:=Str.ofString "__next__") hT F.slot_zip_next (wpAny_call_entry F.slot_zip_next hT F.entry_zip_next ?_ (F.args_zip_next_1 _))))
 show wpAny _ _ (field (.ref z) 2>>=_) _ _ _
 refine wpAny_bind (wpAny_field hz rfl (x:=.bool false) rfl ?_)
 show wpAny _ _ (field (.ref z) 3>>=_) _ _ _
 refine wpAny_bind (wpAny_field hz rfl (x:=.ref TI) rfl (wpAny_bind (wpAny_seqItems hTI rfl ?_)))
 show wpAny _ _ (Builtin.SmallTypes.ownedTupleIsFree (.ref z)>>=_) _ _ _
 refine wpAny_bind ?_
 rcases hf with rfl | ⟨T,oT,rfl,hT0,tz,tTO,t1,t2⟩
 ·unfold Builtin.SmallTypes.ownedTupleIsFree
  refine wpAny_bind (wpAny_field hz rfl (x:=.none) rfl (wpAny_pure ?_))
  simp only [if_true]
  refine wpAny_bind (wpAny_rule ?_)
  refine wpAny_bind (wpAny_field hz rfl (x:=.ref TO) rfl ?_)
  refine wpAny_bind (wpAny_setField_rec hz (by simp) fun h₁ hz₁ hs₁=>?_)
  replace hz₁:ZAt h₁ z TI TO .ellipsis f1:=hz₁
  refine wpAny_bind ?_
  simp only [List.zipIdx_cons,List.zipIdx_nil,List.forIn_cons,List.forIn_nil]
  have kp1:∀ c o,c≠z→s.heap.get? c=some o→h₁.get? c=some o:=fun c o hc e=>hs₁.extBut c o hc e
  have a1:It1 k h₁:=F1.keep _ _ _ h1 fun b hb o e=>kp1 b o (by rcases hb with rfl | rfl; exact D.i1z; exact D.l1z) e
  have b1:It2 k h₁:=F2.keep _ _ _ h2 fun b hb o e=>kp1 b o (by rcases hb with rfl | rfl; exact D.i2z; exact D.l2z) e
  refine wpAny_bind (wpAny_bind (wpAny_onRaise ?_))
  show wpAny _ _ (Builtin.SmallTypes.nextOf (.ref i1)>>=_) _ _ _
  refine wpAny_bind (F1.item _ {s with heap:=h₁} k x _ _ a1 hx fun h₂ a2 hs₂=>wpAny_pure ?_)
  have hTO₂:IsPair h₂ TO a b:=hs₂.extBut _ _ D.TOi1 (kp1 _ _ D.TOz hTO)
  refine wpAny_bind (wpAny_seqItems hTO₂ rfl ?_)
  refine wpAny_bind (wpAny_updateSeq_pair hTO₂ fun h₃ hTO₃ hs₃=>?_)
  replace hTO₃:IsPair h₃ TO x b:=hTO₃
  refine wpAny_bind (wpAny_letGo (wpAny_pure ?_))
  have b3:It2 k h₃:=F2.keep _ _ _ b1 fun c hc o e=>hs₃.extBut c o (by rcases hc with rfl | rfl; exact D.TOi2.symm; exact D.l2TO) (hs₂.extBut c o (by rcases hc with rfl | rfl; exact D.i12.symm; exact D.l2i1) e)
  have a3:It1 (k+1) h₃:=F1.keep _ _ _ a2 fun c hc o e=>hs₃.extBut c o (by rcases hc with rfl | rfl; exact D.TOi1.symm; exact D.l1TO) e
  refine wpAny_bind (wpAny_bind (wpAny_onRaise ?_))
  show wpAny _ _ (Builtin.SmallTypes.nextOf (.ref i2)>>=_) _ _ _
  refine wpAny_bind (F2.item _ {s with heap:=h₃} k y _ _ b3 hy fun h₄ b4 hs₄=>wpAny_pure ?_)
  have hTO₄:IsPair h₄ TO x b:=hs₄.extBut _ _ D.TOi2 hTO₃
  refine wpAny_bind (wpAny_seqItems hTO₄ rfl ?_)
  refine wpAny_bind (wpAny_updateSeq_pair hTO₄ fun h₅ hTO₅ hs₅=>?_)
  replace hTO₅:IsPair h₅ TO x y:=hTO₅
  refine wpAny_bind (wpAny_letGo (wpAny_pure (wpAny_pure ?_)))
  refine wpAny_bind (wpAny_seqItems hTO₅ rfl ?_)
  refine wpAny_bind (wpAny_newTuple ?_)
  have hsz:h₅.objs.size=s.heap.objs.size:=by rw [hs₅.1,hs₄.1,hs₃.1,hs₂.1,hs₁.1]
  have hz₅:ZAt h₅ z TI TO .ellipsis f1:=hs₅.extBut _ _ D.TOz.symm (hs₄.extBut _ _ D.i2z.symm (hs₃.extBut _ _ D.TOz.symm (hs₂.extBut _ _ D.i1z.symm hz₁)))
  have hk₅:∀ c o,c≠z→c≠TO→c≠i1→c≠i2→s.heap.get? c=some o→h₅.get? c=some o:=fun c o c1 c2 c3 c4 e=>
   hs₅.extBut _ _ c2 (hs₄.extBut _ _ c4 (hs₃.extBut _ _ c2 (hs₂.extBut _ _ c3 (kp1 _ _ c1 e))))
  have a5:It1 (k+1) h₅:=F1.keep _ _ _ a3 fun c hc o e=>hs₅.extBut c o (by rcases hc with rfl | rfl; exact D.TOi1.symm; exact D.l1TO) (hs₄.extBut c o (by rcases hc with rfl | rfl; exact D.i12; exact D.l1i2) e)
  have b5:It2 (k+1) h₅:=F2.keep _ _ _ b4 fun c hc o e=>hs₅.extBut c o (by rcases hc with rfl | rfl; exact D.TOi2.symm; exact D.l2TO) e
  show wpAny _ _ (Builtin.SmallTypes.ownedTupleHandOut (.ref z) (.ref h₅.objs.size)>>=_) _ _ _
  refine wpAny_bind ?_
  unfold Builtin.SmallTypes.ownedTupleHandOut
  have hz₆:ZAt (h₅.push {cls:=.type "tuple",data:=.seq #[x,y]}) z TI TO .ellipsis f1:=Heap.get?_push_of_some _ hz₅
  refine wpAny_bind (wpAny_setField_rec hz₆ (by simp) fun h₇ hz₇ hs₇=>?_)
  replace hz₇:ZAt h₇ z TI TO (rawInt h₅.objs.size) f1:=hz₇
  refine wpAny_setField_rec hz₇ (by simp) fun h₈ hz₈ hs₈=>?_
  replace hz₈:ZAt h₈ z TI TO (rawInt h₅.objs.size) false:=hz₈
  have up:∀ c o,c≠z→h₅.get? c=some o→h₈.get? c=some o:=fun c o c1 e=>hs₈.extBut _ _ c1 (hs₇.extBut _ _ c1 (Heap.get?_push_of_some _ e))
  have hT₈:IsPair h₈ h₅.objs.size x y:=hs₈.extBut _ _ (by rw [hsz]; exact Nat.ne_of_gt hzl) (hs₇.extBut _ _ (by rw [hsz]; exact Nat.ne_of_gt hzl) (Heap.get?_push_size _ rfl))
  rw [hsz] at hz₈ hT₈
  refine wpAny_pure ⟨_,rfl,?_⟩
  show wpAny _ _ (pure (some (Value.ref h₅.objs.size))) _ _ _
  rw [hsz]
  refine wpAny_pure (hQ h₈ ⟨⟨_,_,hz₈,.inr ⟨_,_,rfl,hT₈,Nat.ne_of_gt hzl,Nat.ne_of_gt hTOl,Nat.ne_of_gt hi1l,Nat.ne_of_gt hi2l⟩⟩,up _ _ D.TIz (hk₅ _ _ D.TIz D.TITO D.TIi1 D.TIi2 hTI),⟨_,_,up _ _ D.TOz hTO₅⟩,F1.keep _ _ _ a5 fun c hc o e=>up c o (by rcases hc with rfl | rfl; exact D.i1z; exact D.l1z) e,F2.keep _ _ _ b5 fun c hc o e=>up c o (by rcases hc with rfl | rfl; exact D.i2z; exact D.l2z) e⟩ hT₈ fun c o c1 c2 c3 c4 e=>up c o c1 (hk₅ c o c1 c2 c3 c4 e))
 ·refine wpAny_mono (Q:=fun b s₁=>b=false∧∃ h₁,s₁={s with heap:=h₁}∧ZAt h₁ z TI TO (rawInt (T:Int)) true∧Heap.SameBut z s.heap h₁) ?_ ?_ fun _ _ q=>q
  ·unfold Builtin.SmallTypes.ownedTupleIsFree
   refine wpAny_bind (wpAny_field hz rfl (x:=rawInt (T:Int)) rfl ?_)
   show wpAny _ _ (loadIfAlive ((T:Int).toNat)>>=_) _ _ _
   rw [Int.toNat_natCast]
   refine wpAny_bind (PySem.W.kdx_alive hT0 ?_)
   simp only [Option.isNone_some,Bool.false_eq_true,if_false]
   refine wpAny_bind (wpAny_field hz rfl (x:=.bool f1) rfl ?_)
   cases f1 with
   | true=>
    rw [if_neg (show ¬ ((Value.bool true != Value.bool true)=true) from Bool.false_ne_true)]
    exact wpAny_pure ⟨rfl,_,rfl,hz,Heap.SameBut.refl _ _⟩
   | false=>
    rw [if_pos (show (Value.bool false != Value.bool true)=true from rfl)]
    refine wpAny_bind (wpAny_setField_rec hz (by simp) fun h₁ hz₁ hs₁=>?_)
    exact wpAny_pure ⟨rfl,_,rfl,hz₁,hs₁⟩
  ·rintro b' s₁ ⟨rfl,h₁,rfl,hz₁,hs₁⟩
   simp only [Bool.false_eq_true,if_false]
   have kp1:∀ c o,c≠z→s.heap.get? c=some o→h₁.get? c=some o:=fun c o hc e=>hs₁.extBut c o hc e
   have a1:It1 k h₁:=F1.keep _ _ _ h1 fun b hb o e=>kp1 b o (by rcases hb with rfl | rfl; exact D.i1z; exact D.l1z) e
   have b1:It2 k h₁:=F2.keep _ _ _ h2 fun b hb o e=>kp1 b o (by rcases hb with rfl | rfl; exact D.i2z; exact D.l2z) e
   refine wpAny_bind ?_
   rw [← Array.forIn_toList]
   simp only [List.forIn_cons,List.forIn_nil]
   refine wpAny_bind (wpAny_bind (wpAny_holding ?_))
   show wpAny _ _ (Builtin.SmallTypes.nextOf (.ref i1)>>=_) _ _ _
   refine wpAny_bind (F1.item _ {s with heap:=h₁} k x _ _ a1 hx fun h₂ a2 hs₂=>wpAny_pure (wpAny_pure ?_))
   have b2:It2 k h₂:=F2.keep _ _ _ b1 fun c hc o e=>hs₂.extBut c o (by rcases hc with rfl | rfl; exact D.i12.symm; exact D.l2i1) e
   refine wpAny_bind (wpAny_bind (wpAny_holding ?_))
   show wpAny _ _ (Builtin.SmallTypes.nextOf (.ref i2)>>=_) _ _ _
   refine wpAny_bind (F2.item _ {s with heap:=h₂} k y _ _ b2 hy fun h₃ b3 hs₃=>wpAny_pure (wpAny_pure (wpAny_pure ?_)))
   have a3:It1 (k+1) h₃:=F1.keep _ _ _ a2 fun c hc o e=>hs₃.extBut c o (by rcases hc with rfl | rfl; exact D.i12; exact D.l1i2) e
   have hsz:h₃.objs.size=s.heap.objs.size:=by rw [hs₃.1,hs₂.1,hs₁.1]
   have hk₃:∀ c o,c≠z→c≠i1→c≠i2→s.heap.get? c=some o→h₃.get? c=some o:=fun c o c1 c3 c4 e=>hs₃.extBut _ _ c4 (hs₂.extBut _ _ c3 (kp1 _ _ c1 e))
   have hz₃:ZAt h₃ z TI TO (rawInt (T:Int)) true:=hs₃.extBut _ _ D.i2z.symm (hs₂.extBut _ _ D.i1z.symm hz₁)
   show wpAny _ _ (newTuple [x,y]>>=_) _ _ _
   refine wpAny_bind (wpAny_newTuple ?_)
   refine wpAny_pure ⟨_,rfl,?_⟩
   show wpAny _ _ (pure (some (Value.ref h₃.objs.size))) _ _ _
   have up:∀ c o,h₃.get? c=some o→(h₃.push {cls:=.type "tuple",data:=.seq #[x,y]}).get? c=some o:=fun c o e=>Heap.get?_push_of_some _ e
   have hT₄:IsPair (h₃.push {cls:=.type "tuple",data:=.seq #[x,y]}) h₃.objs.size x y:=Heap.get?_push_size _ rfl
   rw [hsz] at hT₄ ⊢
   refine wpAny_pure (hQ _ ⟨⟨_,_,up _ _ hz₃,.inr ⟨T,_,rfl,up _ _ (hk₃ _ _ tz t1 t2 hT0),tz,tTO,t1,t2⟩⟩,up _ _ (hk₃ _ _ D.TIz D.TIi1 D.TIi2 hTI),⟨_,_,up _ _ (hk₃ _ _ D.TOz D.TOi1 D.TOi2 hTO)⟩,F1.keep _ _ _ a3 fun c hc o e=>up c o e,F2.keep _ _ _ b3 fun c hc o e=>up c o e⟩ hT₄ fun c o c1 c2 c3 c4 e=>up c o (hk₃ c o c1 c3 c4 e))
theorem xp {Q:Option Value→Shared→Prop} (hh:A.handled=none) (D:ZipApart z TI TO i1 i2 l1 l2) (F1:lj P w i1 l1 xs It1) (st:ZSt It1 It2 z TI TO i1 i2 k s.heap) (hx:xs[k]? = none)
  (hQ:∀ h',(∀ c o,c≠z→c≠TO→c≠i1→c≠i2→s.heap.get? c=some o→h'.get? c=some o)→Q none {s with heap:=h'}) :
  wpAny (model P w) A (pyNext (.ref z)) Q E s:=by
 obtain⟨⟨f0,f1,hz,hf⟩,hTI,⟨a,b,hTO⟩,h1,h2⟩:=st
 have hT:s.TypeIs (.ref z) "zip":=⟨_,hz,rfl⟩
 unfold pyNext
 refine wpAny_bind (wpAny_attempt (wpAny_callSpecial?_slot (name:=Str.ofString "__next__") hT F.slot_zip_next (wpAny_call_entry F.slot_zip_next hT F.entry_zip_next ?_ (F.args_zip_next_1 _))))
 refine wpAny_mono (Q:=fun _ _=>False) (E:=fun e s'=>∃ h' a,e=.ref a∧s'={s with heap:=h'}∧(∀ c o,c≠z→c≠TO→c≠i1→c≠i2→s.heap.get? c=some o→h'.get? c=some o)∧∃ o,h'.get? a=some o∧o.cls=.type "StopIteration") ?_ (fun _ _ q=>q.elim) ?_
 ·show wpAny _ _ (field (.ref z) 2>>=_) _ _ _
  refine wpAny_bind (wpAny_field hz rfl (x:=.bool false) rfl ?_)
  show wpAny _ _ (field (.ref z) 3>>=_) _ _ _
  refine wpAny_bind (wpAny_field hz rfl (x:=.ref TI) rfl (wpAny_bind (wpAny_seqItems hTI rfl ?_)))
  show wpAny _ _ (Builtin.SmallTypes.ownedTupleIsFree (.ref z)>>=_) _ _ _
  refine wpAny_bind ?_
  rcases hf with rfl | ⟨T,oT,rfl,hT0,tz,tTO,t1,t2⟩
  ·unfold Builtin.SmallTypes.ownedTupleIsFree
   refine wpAny_bind (wpAny_field hz rfl (x:=.none) rfl (wpAny_pure ?_))
   simp only [if_true]
   refine wpAny_bind (wpAny_rule ?_)
   refine wpAny_bind (wpAny_field hz rfl (x:=.ref TO) rfl ?_)
   refine wpAny_bind (wpAny_setField_rec hz (by simp) fun h₁ hz₁ hs₁=>?_)
   replace hz₁:ZAt h₁ z TI TO .ellipsis f1:=hz₁
   refine wpAny_bind ?_
   simp only [List.zipIdx_cons,List.zipIdx_nil,List.forIn_cons,List.forIn_nil]
   have kp1:∀ c o,c≠z→s.heap.get? c=some o→h₁.get? c=some o:=fun c o hc e=>hs₁.extBut c o hc e
   have a1:It1 k h₁:=F1.keep _ _ _ h1 fun b hb o e=>kp1 b o (by rcases hb with rfl | rfl; exact D.i1z; exact D.l1z) e
   refine wpAny_bind (wpAny_bind (wpAny_onRaise ?_))
   show wpAny _ _ (Builtin.SmallTypes.nextOf (.ref i1)>>=_) _ _ _
   refine wpAny_bind (F1.fin _ {s with heap:=h₁} k _ _ (by exact hh) a1 hx fun h₂ e hs₂ he=>?_)
   obtain⟨oe,hoe,hce⟩:=he
   have hz₂:ZAt h₂ z TI TO .ellipsis f1:=hs₂ _ _ D.i1z.symm hz₁
   have hez:e≠z:=fun q=>by subst q; rw [hz₂] at hoe; cases hoe; simp at hce
   refine wpAny_setField_rec hz₂ (by simp) fun h₃ _ hs₃=>⟨h₃,e,rfl,rfl,fun c o c1 _ c3 _ q=>hs₃.extBut _ _ c1 (hs₂ _ _ c3 (kp1 _ _ c1 q)),oe,hs₃.extBut _ _ hez hoe,hce⟩
  ·refine wpAny_mono (Q:=fun b s₁=>b=false∧∃ h₁,s₁={s with heap:=h₁}∧ZAt h₁ z TI TO (rawInt (T:Int)) true∧Heap.SameBut z s.heap h₁) ?_ ?_ fun _ _ q=>q
   ·unfold Builtin.SmallTypes.ownedTupleIsFree
    refine wpAny_bind (wpAny_field hz rfl (x:=rawInt (T:Int)) rfl ?_)
    show wpAny _ _ (loadIfAlive ((T:Int).toNat)>>=_) _ _ _
    rw [Int.toNat_natCast]
    refine wpAny_bind (PySem.W.kdx_alive hT0 ?_)
    simp only [Option.isNone_some,Bool.false_eq_true,if_false]
    refine wpAny_bind (wpAny_field hz rfl (x:=.bool f1) rfl ?_)
    cases f1 with
    | true=>
     rw [if_neg (show ¬ ((Value.bool true != Value.bool true)=true) from Bool.false_ne_true)]
     exact wpAny_pure ⟨rfl,_,rfl,hz,Heap.SameBut.refl _ _⟩
    | false=>
     rw [if_pos (show (Value.bool false != Value.bool true)=true from rfl)]
     refine wpAny_bind (wpAny_setField_rec hz (by simp) fun h₁ hz₁ hs₁=>?_)
     exact wpAny_pure ⟨rfl,_,rfl,hz₁,hs₁⟩
   ·rintro b' s₁ ⟨rfl,h₁,rfl,hz₁,hs₁⟩
    simp only [Bool.false_eq_true,if_false]
    have kp1:∀ c o,c≠z→s.heap.get? c=some o→h₁.get? c=some o:=fun c o hc e=>hs₁.extBut c o hc e
    have a1:It1 k h₁:=F1.keep _ _ _ h1 fun b hb o e=>kp1 b o (by rcases hb with rfl | rfl; exact D.i1z; exact D.l1z) e
    refine wpAny_bind ?_
    rw [← Array.forIn_toList]
    simp only [List.forIn_cons,List.forIn_nil]
    refine wpAny_bind (wpAny_bind (wpAny_holding ?_))
    show wpAny _ _ (Builtin.SmallTypes.nextOf (.ref i1)>>=_) _ _ _
    refine wpAny_bind (F1.fin _ {s with heap:=h₁} k _ _ (by exact hh) a1 hx fun h₂ e hs₂ he=>?_)
    exact⟨h₂,e,rfl,rfl,fun c o c1 _ c3 _ q=>hs₂ _ _ c3 (kp1 _ _ c1 q),he⟩
 ·rintro e s' ⟨h',c,rfl,rfl,hk,o,ho,hc⟩
  refine wpAny_bind (wpAny_isInstance (T:="StopIteration") (b:=true) ⟨o,ho,hc⟩ isSubtype_stop ?_)
  exact wpAny_pure (hQ _ hk)
end
theorem mX:typeLookup (.type "zip") "__getattr__"=pure none:=by rw [typeLookup_type,builtinLookup_eq_fast]; kernel_rfl
theorem mW:typeLookup (.type "zip") "keys"=pure none:=by rw [typeLookup_type,builtinLookup_eq_fast]; kernel_rfl
theorem gT:entryFor table "zip.__getattribute__"=some Builtin.«object.__getattribute__»:=
 entryFor_alias (id':="object.__getattribute__") (by kernel_rfl) (by decide +kernel) (by decide +kernel) (by kernel_rfl)
theorem og:(["__module__","__name__","__qualname__","__doc__","__annotations__"]:List Str).contains "keys"=false:=by decide +kernel
theorem qQ (z TI TO:Addr) (f0:Value) (f1:Bool) (u:Tok) :
  Meets (Builtin.«object.__getattribute__» ⟨[.ref z,.str "keys" u],[]⟩) (fun A R s=>ZAt s.heap z TI TO f0 f1∧raisesAttr (.ref z) "keys" A R s):=
 Meets.of_wp fun prog w A R s hs=>by
  obtain⟨hp,g,d,tk,os⟩:=s
  obtain⟨hx,hs⟩:=hs
  have hT:(⟨hp,g,d,tk,os⟩:Shared).TypeIs (.ref z) "zip":=⟨_,hx,rfl⟩
  have hmiss:=mW
  have hname:=og
  unfold Builtin.«object.__getattribute__»
  repeat (any_goals (first | assumption | wp_step))
  try simp only [hname,Bool.false_eq_true,if_false]
  repeat (any_goals (first | assumption | wp_step))
  exact wpAny_raiseAttrError hs.1 hs.2 (attrMsg_fits (by decide +kernel) (by decide))
theorem qR {P:Program} {w:World} {A:Around} {E:Value→Shared→Prop} {s:Shared} {z TI TO:Addr} {f0:Value} {f1:Bool} {Q:Option Value→Shared→Prop} (hx:ZAt s.heap z TI TO f0 f1) (hA:A.handled=none)
  (h:∀ h' tk e,Heap.NewExcOf s.heap h' e "AttributeError"→Q none {s with heap:=h',toks:=tk}):wpAny (model P w) A (getAttr? (.ref z) "keys") Q E s:=by
 obtain⟨hp,g,d,tk,os⟩:=s
 have hT:∀ tk',(⟨hp,g,d,tk',os⟩:Shared).TypeIs (.ref z) "zip":=fun _=>⟨_,hx,rfl⟩
 have f1':=sub_AttributeError
 have f3:=F.slot_zip_getattribute.lookup
 have f4:=F.slot_zip_getattribute.bind (.ref z)
 have f5:=mX
 unfold getAttr? getAttrBy? getAttrBy
 repeat (any_goals (first | assumption | exact hT _ | ((with_reducible show wpAny _ _ (call (Value.builtin "zip.__getattribute__") _ _) _ _ _); refine call_meets F.slot_zip_getattribute (hT _) gT (F.args_zip_getattribute_2 _ _) (qQ z TI TO f0 f1 _) ⟨hx,hA,fun h' tk' e hx'=>?_⟩) | wp_step))
 obtain⟨t',u',he⟩:=hx'.there
 show wpAny _ _ (getattributeRaised _ _ _ _ _ _ _) _ _ _
 unfold getattributeRaised
 repeat (any_goals (first | assumption | wp_step))
 exact h _ _ _ hx'.of
theorem fF:entryFor table "dict.update.loop"=some Builtin.«dict.update.loop»:=entryFor_of_tree (by kernel_rfl)
theorem da:plainId "dict.update.loop"=true:=by decide +kernel
def dt {α:Type} (ws:List Str) (us:List α):List (Key×α):=List.zipWith (fun n v=>(Sum.inr n,v)) ws us
theorem jL {α:Type}:∀ {ws:List Str} {us:List α},us.length=ws.length→(dt ws us).map (·.1)=ws.map Sum.inr
 | [],[],_=>rfl
 | w::ws,u::us,h=>by
  show Sum.inr w::(dt ws us).map (·.1)=_
  rw [jL (by simpa using h)]; rfl
theorem il {α:Type} {ws:List Str} {us:List α} (h:us.length=ws.length):(dt ws us).length=ws.length:=by unfold dt; rw [List.length_zipWith]; omega
theorem lv {α:Type}:∀ {ws:List Str} {us:List α} {i:Nat} {n:Str} {v:α},ws[i]? = some n→us[i]? = some v→(dt ws us)[i]? = some (.inr n,v)
 | [],_,_,_,_,h,_=>by simp at h
 | _::_,[],_,_,_,_,h=>by simp at h
 | w::ws,u::us,0,n,v,h,h'=>by simp at h h'; subst h h'; rfl
 | w::ws,u::us,i+1,n,v,h,h'=>by simpa [dt] using lv (ws:=ws) (us:=us) (i:=i) (by simpa using h) (by simpa using h')
theorem lB {kvs:List (Key×Value)} (hn:(kvs.map (·.1)).Nodup) {i:Nat} {k:Key} {v:Value} (h:kvs[i]? = some (k,v)):stored (kvs.take i) k v=kvs.take (i+1):=by
 have hi:i<kvs.length:=(List.getElem?_eq_some_iff.mp h).1
 have hk:¬ (kvs.take i).any (fun kv=>decide (kv.1=k))=true:=by
  intro z
  obtain⟨x,hx,e⟩:=List.any_eq_true.mp z
  obtain⟨j,hj⟩:=List.mem_iff_getElem?.mp hx
  have hji:j<i:=by have:=(List.getElem?_eq_some_iff.mp hj).1; rw [List.length_take] at this; omega
  have hj':kvs[j]? = some x:=by rw [List.getElem?_take] at hj; rw [if_pos hji] at hj; exact hj
  have e1:(kvs.map (·.1))[j]? = some k:=by rw [List.getElem?_map,hj']; show some x.1=some k; rw [of_decide_eq_true e]
  have e2:(kvs.map (·.1))[i]? = some k:=by rw [List.getElem?_map,h]; rfl
  have:=(List.getElem?_inj (by rw [List.length_map]; omega) hn).mp (e1.trans e2.symm)
  omega
 unfold stored
 rw [if_neg hk,List.take_succ,h]
 rfl
section
variable {P:Program} {w:World} {A:Around} {R:Result→Shared→Prop} {It1 It2:Nat→Heap→Prop} {z TI TO i1 i2 l1 l2 d:Addr} {xs ys:Array Value} {ws:List Str}
theorem vj (hh:A.handled=none) (hi:∀ k h,It1 k h→i1<h.objs.size) (hi':∀ k h,It2 k h→i2<h.objs.size) (D:ZipApart z TI TO i1 i2 l1 l2) (F1:lj P w i1 l1 xs It1) (F2:lj P w i2 l2 ys It2)
  (dz:d≠z) (dTO:d≠TO) (d1:d≠i1) (d2:d≠i2) (dTI:d≠TI) (dl1:d≠l1) (dl2:d≠l2) (hx:∀ (i:Nat) (n:Str),ws[i]? = some n→∃ t,xs[i]? = some (Value.str n t)) (hxn:xs.size=ws.length) (hyn:ys.size=ws.length) (hw:ws.Nodup) (hsz:ws.length≤sizeLine) :
  ∀ (m i:Nat) (s:Shared),ws.length-i=m→i≤ws.length→ZSt It1 It2 z TI TO i1 i2 i s.heap→s.heap.DictOf (bX P w) d ((dt ws ys.toList).take i)→
   (∀ h' tk,h'.DictOf (bX P w) d (dt ws ys.toList)→(∀ c o,c≠d→c≠z→c≠TO→c≠i1→c≠i2→s.heap.get? c=some o→h'.get? c=some o)→R (.ok (.ret .none)) {s with heap:=h',toks:=tk})→
   codeAny (model P w) A (.builtin "dict.update.loop" ⟨[.ref d,.ref z,rawInt (i:Int),.none],[]⟩) R s:=by
 have hlen:(dt ws ys.toList).length=ws.length:=il (by rw [Array.length_toList]; exact hyn)
 have hnd:((dt ws ys.toList).map (·.1)).Nodup:=by
  rw [jL (by rw [Array.length_toList]; exact hyn)]
  exact List.Pairwise.map _ (fun a b (hab:a≠b) e=>hab (Sum.inr.inj e)) hw
 intro m
 induction m with
 | zero=>
  intro i s hm hil st hd hR
  have hin:i=ws.length:=by omega
  subst hin
  refine codeAny_builtin fF ?_
  rw [Around.under_plainId da _]
  show wpAny _ A.in1 (pyNext (.ref z)>>=_) _ _ s
  refine wpAny_bind (xp (A:=A.in1) hh D F1 st (by rw [Array.getElem?_eq_none]; omega) fun h' hk=>?_)
  show wpAny _ A.in1 (Builtin.Dict.addKeywords d []>>=_) _ _ _
  refine wpAny_bind (wpAny_pure (wpAny_pure (hR h' s.toks ?_ fun c o _ c1 c2 c3 c4 e=>hk c o c1 c2 c3 c4 e)))
  rw [List.take_of_length_le (by omega)] at hd
  obtain⟨o,es,ep,ho,r⟩:=hd
  exact⟨o,es,ep,hk d o dz dTO d1 d2 ho,r⟩
 | succ m ih=>
  intro i s hm hil st hd hR
  have hlt:i<ws.length:=by omega
  obtain⟨t,hxi⟩:=hx i ws[i] (by simp [hlt])
  have hyi:ys[i]? = some ys[i]:=by simp [hyn,hlt]
  refine codeAny_builtin fF ?_
  rw [Around.under_plainId da _]
  show wpAny _ A.in1 (pyNext (.ref z)>>=_) _ _ s
  refine wpAny_bind (wg (A:=A.in1) hi hi' D F1 F2 st hxi hyi fun h' st' hp hk=>?_)
  have hsl:=st'.z
  show wpAny _ A.in1 (holding [Value.ref s.heap.objs.size] _>>=_) _ _ _
  refine wpAny_bind (wpAny_holding ?_)
  refine wpAny_bind (wpAny_tryCatch ?_)
  unfold Builtin.Dict.pairItems
  refine wpAny_bind (wpAny_typeOf (T:="tuple") ⟨_,hp,rfl⟩ ?_)
  rw [if_pos (by rfl)]
  refine wpAny_bind (wpAny_seqItems hp rfl (wpAny_pure ?_))
  show wpAny _ A.in1 (holding [Value.str ws[i] t,ys[i]] (dictSet d (.str ws[i] t) ys[i])) _ _ _
  refine wpAny_holding ?_
  have hd':h'.DictOf (bX P w) d ((dt ws ys.toList).take i):=by
   obtain⟨o,es,ep,ho,r⟩:=hd
   exact⟨o,es,ep,hk d o dz dTO d1 d2 ho,r⟩
  refine wpAny_dictSet_pairs (knd:=bX P w) (k:=.inr ws[i]) (hsz:=by rw [List.length_take]; omega) (iy P w ws[i] t) hd' fun h2 hd2 hs2=>?_
  rw [lB hnd (lv (i:=i) (n:=ws[i]) (v:=ys[i]) (by simp [hlt]) (by rw [Array.getElem?_toList]; exact hyi))] at hd2
  have kp:∀ c o,c≠d→h'.get? c=some o→h2.get? c=some o:=fun c o hc e=>hs2.extBut c o hc e
  have st2:ZSt It1 It2 z TI TO i1 i2 (i+1) h2:=by
   obtain⟨⟨f0,f1,hz,hf⟩,hTI,⟨a,b,hTO⟩,ha,hb⟩:=st'
   refine⟨⟨f0,f1,kp _ _ dz.symm hz,?_⟩,kp _ _ dTI.symm hTI,⟨a,b,kp _ _ dTO.symm hTO⟩,F1.keep _ _ _ ha fun c hc o e=>kp c o (by rcases hc with rfl | rfl; exact d1.symm; exact dl1.symm) e,F2.keep _ _ _ hb fun c hc o e=>kp c o (by rcases hc with rfl | rfl; exact d2.symm; exact dl2.symm) e⟩
   rcases hf with rfl | ⟨T,o,rfl,hT,t1,t2,t3,t4⟩
   ·exact .inl rfl
   ·by_cases hTd:T=d
    ·subst hTd
     obtain⟨o',_,_,ho',_⟩:=hd2
     exact .inr ⟨T,o',rfl,ho',t1,t2,t3,t4⟩
    ·exact .inr ⟨T,o,rfl,kp _ _ hTd hT,t1,t2,t3,t4⟩
  have ih':=ih (i+1) {s with heap:=h2,toks:=s.toks+1} (by omega) hlt st2 hd2 fun h3 tk hd3 hk3=>hR h3 tk hd3 fun c o c0 c1 c2 c3 c4 e=>hk3 c o c0 c1 c2 c3 c4 (kp c o c0 (hk c o c1 c2 c3 c4 e))
  rw [show ((i+1:Nat):Int)=(i:Int)+1 from by omega] at ih'
  exact wpAny_pure ⟨plainId_quiet da _,ih'⟩
end
theorem nz1 {l n:Nat} (h:l<n):l≠n+1:=by omega
theorem nzj {m n:Nat} (j:Nat) (h:n+4<m) (hj:j≤4:=by decide):m≠n+j:=by omega
theorem nzl {m n l:Nat} (hl:l<n) (h:n+4<m):m≠l:=by omega
theorem nzc {c n:Nat} (j:Nat) (h:c<n):c≠n+j:=by omega
abbrev zt2 (h:Heap) (l1 l2:Addr):Heap:=(zipH1 h l1).push {cls:=.type "tuple_iterator",data:=.fields #[.ref l2,.int 0 0]}
abbrev zt3 (h:Heap) (l1 l2:Addr):Heap:=(zt2 h l1 l2).push {cls:=.type "tuple",data:=.seq #[.ref h.objs.size,.ref (zipH1 h l1).objs.size]}
abbrev zt4 (h:Heap) (l1 l2:Addr):Heap:=(zt3 h l1 l2).push {cls:=.type "tuple",data:=.seq #[.none,.none]}
abbrev zt5 (h:Heap) (l1 l2:Addr):Heap:=(zt4 h l1 l2).push {cls:=.type "zip",data:=.fields #[.none,.bool false,.bool false,.ref (zt2 h l1 l2).objs.size,.ref (zt3 h l1 l2).objs.size]}
theorem wf (l1 l2:Addr) (xs ys:Array Value) :
  Meets (Builtin.«zip.__new__» ⟨[.type "zip",.ref l1,.ref l2],[]⟩) (fun _ R s=>s.heap.IsList l1 xs∧s.heap.IsTuple l2 ys∧R (.ok (.ret (.ref (zt4 s.heap l1 l2).objs.size))) {s with heap:=zt5 s.heap l1 l2}):=
 .of_wp fun prog w A R s h=>by
  obtain⟨hp,g,d,tk,os⟩:=s; obtain⟨hl1,hl2,h⟩:=h
  have hsub:=sub_zip
  have hL1:Heap.IsList (Shared.heap ⟨hp,g,d,tk,os⟩) l1 xs:=hl1
  have hL2:Heap.IsTuple (Shared.heap ⟨hp.push {cls:=.type "list_iterator",data:=.fields #[.ref l1,.int 0 0]},g,d,tk,os⟩) l2 ys:=Heap.IsTuple.push hl2 _
  wp_walk using wpAny_pyIter_list hL1,wpAny_pyIter_tuple hL2
  exact⟨_,rfl,h⟩
section
variable {P:Program} {w:World} {A:Around} {E:Value→Shared→Prop} {s:Shared} {l1 l2:Addr} {xs ys:Array Value}
theorem qI {Q:Value→Shared→Prop} (hl1:s.heap.IsList l1 xs) (hl2:s.heap.IsTuple l2 ys)
  (h:∀ h',IsZip h' (s.heap.objs.size+4) (s.heap.objs.size+2) (s.heap.objs.size+3) .none→IsPair h' (s.heap.objs.size+2) (.ref s.heap.objs.size) (.ref (s.heap.objs.size+1))→IsPair h' (s.heap.objs.size+3) .none .none→
   h'.IsListIter s.heap.objs.size l1 0→h'.IsTupleIter (s.heap.objs.size+1) l2 0→(∀ c o,s.heap.get? c=some o→h'.get? c=some o)→Q (.ref (s.heap.objs.size+4)) {s with heap:=h'}) :
  wpAny (model P w) A (call (.type "zip") [.ref l1,.ref l2]) Q E s:=by
 refine callType_new F.called_zip (by decide) (F.typeCall_zip_2 _ _) (F.newCall_zip_2 _ _) (fun obj=>F.args_object_init_3 obj _ _) F.entry_zip_new (wf l1 l2 xs ys) ⟨hl1,hl2,?_⟩
 have z1:(zipH1 s.heap l1).objs.size=s.heap.objs.size+1:=Heap.size_push ..
 have z2:(zt2 s.heap l1 l2).objs.size=s.heap.objs.size+2:=by rw [Heap.size_push,z1]
 have z3:(zt3 s.heap l1 l2).objs.size=s.heap.objs.size+3:=by rw [Heap.size_push,z2]
 have z4:(zt4 s.heap l1 l2).objs.size=s.heap.objs.size+4:=by rw [Heap.size_push,z3]
 have g5:(zt5 s.heap l1 l2).get? (zt4 s.heap l1 l2).objs.size=some _:=Heap.get?_push_size _ rfl
 have g4:(zt5 s.heap l1 l2).get? (zt3 s.heap l1 l2).objs.size=some _:=Heap.get?_push_of_some _ (Heap.get?_push_size _ rfl)
 have g3:(zt5 s.heap l1 l2).get? (zt2 s.heap l1 l2).objs.size=some _:=Heap.get?_push_of_some _ (Heap.get?_push_of_some _ (Heap.get?_push_size _ rfl))
 have g2:(zt5 s.heap l1 l2).get? (zipH1 s.heap l1).objs.size=some _:=Heap.get?_push_of_some _ (Heap.get?_push_of_some _ (Heap.get?_push_of_some _ (Heap.get?_push_size _ rfl)))
 have g1:(zt5 s.heap l1 l2).get? s.heap.objs.size=some _:=Heap.get?_push_of_some _ (Heap.get?_push_of_some _ (Heap.get?_push_of_some _ (Heap.get?_push_of_some _ (Heap.get?_push_size _ rfl))))
 show _∧_
 rw [z2,z3,z4] at g5
 rw [z1,z2] at g3
 rw [z3] at g4
 rw [z1] at g2
 rw [z4]
 exact⟨⟨_,g5,rfl⟩,h _ g5 g3 g4 ⟨_,g1,rfl,rfl⟩ ⟨_,g2,rfl,rfl⟩ fun c o x=>Heap.get?_push_of_some _ (Heap.get?_push_of_some _ (Heap.get?_push_of_some _ (Heap.get?_push_of_some _ (Heap.get?_push_of_some _ x))))⟩
def yC (P:Program) (w:World) (n l1 l2:Addr) (xs ys:Array Value) (h:Heap):Prop:=
 ∃ It1 It2:Nat→Heap→Prop,lj P w n l1 xs It1∧lj P w (n+1) l2 ys It2∧(∀ k h,It1 k h→n<h.objs.size)∧(∀ k h,It2 k h→n+1<h.objs.size)∧ZSt It1 It2 (n+4) (n+2) (n+3) n (n+1) 0 h
theorem qJ {Q:Value→Shared→Prop} (hl1:s.heap.IsList l1 xs) (hl2:s.heap.IsList l2 ys∨s.heap.IsTuple l2 ys)
  (h:∀ h',yC P w s.heap.objs.size l1 l2 xs ys h'→(∀ c o,s.heap.get? c=some o→h'.get? c=some o)→Q (.ref (s.heap.objs.size+4)) {s with heap:=h'}) :
  wpAny (model P w) A (call (.type "zip") [.ref l1,.ref l2]) Q E s:=by
 have n1:l1≠s.heap.objs.size:=by obtain⟨o,ho,_⟩:=hl1; exact Nat.ne_of_lt (Heap.lt_size ho)
 rcases hl2 with hl2 | hl2
 ·have n2:l2≠s.heap.objs.size+1:=by obtain⟨o,ho,_⟩:=hl2; exact nz1 (Heap.lt_size ho)
  refine call_zip_2 hl1 hl2 fun h' hz hTI hTO hi1 hi2 _ hk=>h h' ⟨_,_,ig _ l1 xs n1,ig _ l2 ys n2,?_,?_,⟨_,_,hz,.inl rfl⟩,hTI,⟨_,_,hTO⟩,⟨hi1,hl1.at fun o e=>hk _ o e⟩,hi2,hl2.at fun o e=>hk _ o e⟩ hk
  ·rintro k h ⟨⟨o,ho,_⟩,_⟩; exact Heap.lt_size ho
  ·rintro k h ⟨⟨o,ho,_⟩,_⟩; exact Heap.lt_size ho
 ·have n2:l2≠s.heap.objs.size+1:=by obtain⟨o,ho,_⟩:=hl2; exact nz1 (Heap.lt_size ho)
  refine qI hl1 hl2 fun h' hz hTI hTO hi1 hi2 hk=>h h' ⟨_,_,ig _ l1 xs n1,tO _ l2 ys n2,?_,?_,⟨_,_,hz,.inl rfl⟩,hTI,⟨_,_,hTO⟩,⟨hi1,hl1.at fun o e=>hk _ o e⟩,hi2,let ⟨o,ho,r⟩:=hl2; ⟨o,hk _ o ho,r⟩⟩ hk
  ·rintro k h ⟨⟨o,ho,_⟩,_⟩; exact Heap.lt_size ho
  ·rintro k h ⟨⟨o,ho,_⟩,_⟩; exact Heap.lt_size ho
theorem oG {Q:Value→Shared→Prop} {n:Addr} {ws:List Str} (hh:A.handled=none) (zn:yC P w n l1 l2 xs ys s.heap) (hl1:l1<n) (hl2:l2<n)
  (hx:∀ (i:Nat) (c:Str),ws[i]? = some c→∃ t,xs[i]? = some (Value.str c t)) (hxn:xs.size=ws.length) (hyn:ys.size=ws.length) (hw:ws.Nodup) (hsz:ws.length≤sizeLine)
  (h:∀ h' tk,h'.DictOf (bX P w) s.heap.objs.size (dt ws ys.toList)→(∀ c o,c<n→s.heap.get? c=some o→h'.get? c=some o)→Q (.ref s.heap.objs.size) {s with heap:=h',toks:=tk}) :
  wpAny (model P w) A (call (.type "dict") [.ref (n+4)]) Q E s:=by
 obtain⟨It1,It2,F1,F2,hi,hi',st⟩:=zn
 have D:ZipApart (n+4) (n+2) (n+3) n (n+1) l1 l2:=zipApart_new hl1 hl2
 refine callType_codes (Q₁:=fun obj s₁=>obj=.ref s.heap.objs.size∧s₁={s with heap:=s.heap.push {cls:=.type "dict",data:=.dict #[]}}) F.kt_called_dict (F.kt_typeCall_dict_1 _) F.entry_dict_init (kt_code_dict_new _ ⟨rfl,rfl⟩) ?_
 rintro obj s₁ ⟨rfl,rfl⟩
 have hnew:(s.heap.push {cls:=.type "dict",data:=.dict #[]}).DictOf (bX P w) s.heap.objs.size []:=Heap.DictOf.new s.heap
 refine⟨hnew.typeIs,F.args_dict_init_2 _ _,?_⟩
 have pu:∀ c o,s.heap.get? c=some o→(s.heap.push {cls:=.type "dict",data:=.dict #[]}).get? c=some o:=fun c o e=>Heap.get?_push_of_some _ e
 have mv:∀ h1 h2:Heap,(∀ c o,h1.get? c=some o→h2.get? c=some o)→ZSt It1 It2 (n+4) (n+2) (n+3) n (n+1) 0 h1→ZSt It1 It2 (n+4) (n+2) (n+3) n (n+1) 0 h2:=fun h1 h2 k st=>by
  obtain⟨⟨f0,f1,hz,hf⟩,hTI,⟨a,b,hTO⟩,ha,hb⟩:=st
  refine⟨⟨f0,f1,k _ _ hz,?_⟩,k _ _ hTI,⟨a,b,k _ _ hTO⟩,F1.keep _ _ _ ha fun c _ o e=>k c o e,F2.keep _ _ _ hb fun c _ o e=>k c o e⟩
  rcases hf with rfl | ⟨T,o,rfl,hT,r⟩
  ·exact .inl rfl
  ·exact .inr ⟨T,o,rfl,k _ _ hT,r⟩
 have st1:=mv _ _ pu st
 obtain⟨f0,f1,hz,_⟩:=st1.z
 have hnz:n+4<s.heap.objs.size:=by obtain⟨_,_,hz0,_⟩:=st.z; exact Heap.lt_size hz0
 unfold Builtin.«dict.__init__»
 refine wpAny_bind ?_
 unfold Builtin.Dict.selfAndRest
 refine wpAny_bind (wpAny_notOrdered_dict hnew.typeIs ?_)
 show wpAny _ _ (pure (s.heap.objs.size,[Value.ref (n+4)])) _ _ _
 refine wpAny_pure ?_
 show wpAny _ _ (Builtin.Dict.updateFrom "dict.__init__" s.heap.objs.size (.ref (n+4)) [] .none) _ _ _
 unfold Builtin.Dict.updateFrom
 refine wpAny_bind (wpAny_typeOf (T:="zip") ⟨_,hz,rfl⟩ ?_)
 rw [if_pos (by decide)]
 refine wpAny_bind (qR hz (by exact hh) fun h2 tk e hn=>?_)
 have k2:∀ c o,(s.heap.push {cls:=.type "dict",data:=.dict #[]}).get? c=some o→h2.get? c=some o:=hn.1
 simp only [Option.isNone_none,if_true]
 refine wpAny_bind (wpAny_rule ?_)
 have st2:=mv _ _ k2 st1
 obtain⟨g0,g1,hz2,_⟩:=st2.z
 have hd2:h2.DictOf (bX P w) s.heap.objs.size []:=by
  obtain⟨o,es,ep,ho,r⟩:=hnew
  exact⟨o,es,ep,k2 _ _ ho,r⟩
 refine wpAny_bind ?_
 have pit:∀ {Q':Value→Shared→Prop} {E':Value→Shared→Prop} {A':Around} {s':Shared},ZAt s'.heap (n+4) (n+2) (n+3) g0 g1→Q' (.ref (n+4)) s'→wpAny (model P w) A' (pyIter (.ref (n+4))) Q' E' s':=fun {Q' E' A' s'} hz' q=>by
  have hT:s'.TypeIs (.ref (n+4)) "zip":=⟨_,hz',rfl⟩
  refine wpAny_pyIter_slot hT F.slot_zip_iter (wpAny_call_entry F.slot_zip_iter hT F.entry_zip_iter ?_ (F.args_zip_iter_1 _))
  show wpAny _ _ (ret (.ref (n+4))) _ _ s'
  exact wpAny_pure ⟨_,rfl,"zip",_,hT,F.slot_zip_next.lookup,q⟩
 refine pit hz2 (wpAny_pure ⟨plainId_quiet da _,?_⟩)
 refine vj (A:=A.in1) hh hi hi' D F1 F2 (nzj 4 hnz) (nzj 3 hnz) (nzj 0 hnz) (nzj 1 hnz) (nzj 2 hnz) (nzl hl1 hnz) (nzl hl2 hnz) hx hxn hyn hw hsz (ws.length-0) 0 _ rfl (Nat.zero_le _) st2 hd2 fun h3 tk3 hd3 hk3=>⟨rfl,?_⟩
 exact h h3 tk3 hd3 fun c o hc e=>hk3 c o (Nat.ne_of_lt (Heap.lt_size e)) (nzc 4 hc) (nzc 3 hc) (nzc 0 hc) (nzc 1 hc) (k2 c o (pu c o e))
end
theorem wZ:bootBuiltins "zip"=some (.type "zip"):=by decide +kernel
theorem lu:∀ {ws:List Str} {us:List V} {vs:List Value},aI us vs→KV (dt ws us) (dt ws vs)
 | [],_,_,_=>.nil
 | _::_,[],_,.nil=>.nil
 | w::ws,_::_,_::_,.cons r t=>.cons ⟨rfl,r⟩ (lu t)
theorem ut:∀ {ws:List Str} {its:List Value},aI (ws.map V.str) its→∀ (i:Nat) (c:Str),ws[i]? = some c→∃ t,its.toArray[i]? = some (Value.str c t)
 | ws,its,r,i,c,h=>by
  obtain⟨u,hu,ru⟩:=r.get (i:=i) (x:=V.str c) (by rw [List.getElem?_map,h]; rfl)
  obtain⟨t,rfl⟩:=ru
  exact⟨t,by rw [List.getElem?_toArray]; exact hu⟩
def re (K:PySem.W.Frag) (ta:TA):TE:=fun σ H Q=>ta σ H fun vs H1=>∃ (a b:Addr) (ws:List Str) (us:List V),vs=[.ref a,.ref b]∧SqL K H1 a (ws.map V.str)∧(SqL K H1 b us∨SqT K H1 b us)∧us.length=ws.length∧ws.Nodup∧
 ∀ d,H1 d=none→Q (.ref d) (upd H1 d (.dK (dt ws us)))
theorem nL {X:Cx} {e1 e2:Expr} {ta:TA} {p p' pos pos':Pos} (hc:X.calm=true) (hg:Gl X "dict") (hg':Gl X "zip") (hm:X.mg "dict"=none) (hm':X.mg "zip"=none) (ha:PA X [e1,e2] ta)
  (he:starEach [Expr.Call (.Name "zip" p') [e1,e2] [] pos'] X.env=[(false,eval (Expr.Call (.Name "zip" p') [e1,e2] [] pos') X.env)]:=by rfl)
  (he':starEach [e1,e2] X.env=(false,eval e1 X.env)::starEach [e2] X.env:=by rfl) (hpl':(backTo pos' (starEach [e2] X.env)).any (·.1)=false:=by rfl) :
  PE X (.Call (.Name "dict" p) [.Call (.Name "zip" p') [e1,e2] [] pos'] [] pos) (re X.K ta):=by
 intro pins s σ H Q I h
 refine wpAny_Call_Name_kw (fC I hg hm vq ?_ (by decide) (by decide))
 refine callWith_type1 (rest:=[]) ?_ he rfl
 rw [he]
 show wpAny _ _ (spliced ((false,eval (Expr.Call (.Name "zip" p') [e1,e2] [] pos') X.env)::[])) _ _ s
 refine Calls.spliced_cons ?_
 refine wpAny_Call_Name_kw (fC I hg' hm' wZ ?_ (by decide) (by decide))
 refine callWith_type1 (thn (ha pos' pins s σ H _ I h) fun us s1 ⟨vs,H1,I1,r1,a,b,ws,zs,ev,ha1,hb1,hl,hw,q⟩=>?_) he' hpl'
 subst ev
 obtain⟨u,v,rfl,ru,rv⟩:=io r1
 cases ru
 cases rv
 obtain⟨its,r',pl,hz⟩:=I1.list ha1
 have hlen:=r'.length
 rw [List.length_map] at hlen
 have hz':ws.length≤sizeLine:=by rw [List.length_map] at hz; exact hz
 have hb:∃ jts:List Value,aI zs jts∧(s1.heap.IsList b jts.toArray∨s1.heap.IsTuple b jts.toArray):=by
  rcases hb1 with hb1 | hb1
  ·obtain⟨jts,r2,pl2,_⟩:=I1.list hb1
   exact⟨jts,r2,.inl pl2.isList⟩
  ·obtain⟨jts,r2,pl2,_⟩:=I1.tuple hb1
   exact⟨jts,r2,.inr pl2⟩
 obtain⟨jts,r2,hb2⟩:=hb
 have hl2:=r2.length
 have hal:a<s1.heap.objs.size:=by obtain⟨o,ho,_⟩:=pl.isList; exact Heap.lt_size ho
 have hbl:b<s1.heap.objs.size:=by rcases hb2 with ⟨o,ho,_⟩ | ⟨o,ho,_⟩ <;> exact Heap.lt_size ho
 refine qJ (P:=X.prog) (w:=X.w) pl.isList hb2 fun h' zn hk=>Calls.spliced_nil ?_
 have hsz:s1.heap.objs.size≤h'.objs.size:=by
  obtain⟨_,_,_,_,hi,_,st⟩:=zn
  exact Nat.le_of_lt (hi _ _ st.a)
 refine oG (s:={s1 with heap:=h'}) (I1.ok.hd hc) zn hal hbl (ut r') (by rw [List.size_toArray]; omega) (by rw [List.size_toArray]; omega) hw hz' fun h2 tk hd hk2=>?_
 have kp:∀ c o,s1.heap.get? c=some o→h2.get? c=some o:=fun c o e=>hk2 c o (Heap.lt_size e) (hk c o e)
 refine⟨.ref h'.objs.size,_,I1.laid (t':=tk) kp hsz (o:=.dK (dt ws zs)) ⟨?_,?_,dt ws jts,lu r2,by simpa using hd⟩,rfl,q _ (I1.hok.fresh hsz)⟩
 ·rw [il hl]; exact hz'
 ·exact beq_eq_false_iff_ne.mpr (Ne.symm (Nat.ne_of_lt (Nat.lt_of_lt_of_le I1.big hsz)))
end L2
set_option maxHeartbeats 4000000
namespace L2
open PySem PySem.Spec PyProof.Rows
abbrev LC2 (elt tg iter tg2 iter2:Expr) (ifs:List Expr) (scope:Scope) (pos:Pos):Expr:=.ListComp elt [⟨tg,iter,[],0⟩,⟨tg2,iter2,ifs,0⟩] scope pos
section
variable {P:Program} {w:World} {A:Around} {R:Result→Shared→Prop} {s:Shared} {elt tg iter tg2 iter2:Expr} {ifs:List Expr} {scope:Scope} {pos:Pos} {it acc:Value} {env:Env}
abbrev oN (ifs:List Expr) (env:Env):Sem Bool:=forIn ifs true fun c r=>if r=true then do let ok ← isTrue c env (eval c env); pure (ForInStep.yield ok) else pure (ForInStep.yield r)
theorem xu:compTurn (LC2 elt tg iter tg2 iter2 ifs scope pos) 0 it acc env=(do
   standAt iter.pos
   match ← pyNext it with
   | none=>pure (.done .next)
   | some v=>
    letOwnedTupleGo tg it v
    assign tg env v
    let mut ok:=true
    for c in ([]:List Expr) do
     if ok then ok ← isTrue c env (eval c env)
    if ok then
     let x ← eval iter2 env
     standAt iter2.pos
     let x ← foldedSetIterable iter2 env x
     let _ ← runOwn (.compStart (LC2 elt tg iter tg2 iter2 ifs scope pos) 1 (← holding [x] (pyIter x)) acc env) env
    again (.compLoop (LC2 elt tg iter tg2 iter2 ifs scope pos) 0 it acc env)):=by rfl
theorem xt:compTurn (LC2 elt tg iter tg2 iter2 ifs scope pos) 1 it acc env=(do
   standAt iter2.pos
   match ← pyNext it with
   | none=>pure (.done .next)
   | some v=>
    letOwnedTupleGo tg2 it v
    assign tg2 env v
    let mut ok:=true
    for c in ifs do
     if ok then ok ← isTrue c env (eval c env)
    if ok then
     (do let _ ← call (.builtin "list.append") [acc,← eval elt env])
    again (.compLoop (LC2 elt tg iter tg2 iter2 ifs scope pos) 1 it acc env)):=by rfl
theorem yk (I:Nat→Shared→Prop) (hs:∀ x,foldedSetIterable iter2 env x=pure x)
  (turn:∀ n s,I n s→wpAny (model P w) A (pyNext it) (fun r s1=>match r with
   | none=>R (.ok .next) s1
   | some v=>wpAny (model P w) A (letOwnedTupleGo tg it v) (fun _ s1'=>wpAny (model P w) A (assign tg env v) (fun _ s2=>
     wpAny (model P w) A (eval iter2 env) (fun x s3=>wpAny (model P w) A (pyIter x) (fun jt s4=>
      codeAny (model P w) A (.compStart (LC2 elt tg iter tg2 iter2 ifs scope pos) 1 jt acc env) (fun r s5=>match r with | .ok _=>∃ m,m<n∧I m s5 | .error _=>False) s4)
     (fun _ _=>False) s3) (fun _ _=>False) s2) (fun _ _=>False) s1') (fun _ _=>False) s1) (fun _ _=>False) s)
  (n:Nat) (h:I n s):codeAny (model P w) A (.compLoop (LC2 elt tg iter tg2 iter2 ifs scope pos) 0 it acc env) R s:=by
 refine codeAny_loop rfl I (fun n s hI=>?_) n h
 show wpAny _ A ((compTurn (LC2 elt tg iter tg2 iter2 ifs scope pos) 0 it acc env).onRaise (fun x=>do noteFrame x env; theTreesLotGoes x)) _ _ s
 refine wpAny_noted ?_
 rw [xu]
 refine wpAny_bind (wpAny_standAt (wpAny_bind (wpAny_mono (turn n s hI) (fun r s1 h1=>?_) fun _ _ z=>z.elim)))
 cases r with
 | none=>exact wpAny_pure h1
 | some v=>
  refine wpAny_bind (wpAny_mono h1 (fun _ s1' h1'=>?_) fun _ _ z=>z.elim)
  refine wpAny_bind (wpAny_mono h1' (fun _ s2 h2=>wpAny_bind (wpAny_mono (wpAny_tests_nil (Q:=fun ok s3=>ok=true∧s3=s2) ⟨rfl,rfl⟩) (fun ok s3 h3=>?_) fun _ _ h'=>h')) fun _ _ z=>z.elim)
  obtain⟨rfl,rfl⟩:=h3
  simp only [if_true]
  refine wpAny_bind (wpAny_mono h2 (fun x s4 h4=>wpAny_bind (wpAny_standAt (wpAny_bind (wpAny_of_eq (hs x) (wpAny_bind (wpAny_holding (wpAny_mono h4 (fun jt s5 h5=>?_) fun _ _ z=>z.elim))))))) fun _ _ z=>z.elim)
  refine wpAny_bind (wpAny_runOwn (codeAny_mono h5 fun r s6 h6=>?_))
  cases r with
  | error e=>exact h6.elim
  | ok f=>exact wpAny_pure ⟨rfl,h6⟩
theorem yj (I:Nat→Shared→Prop)
  (turn:∀ n s,I n s→wpAny (model P w) A (pyNext it) (fun r s1=>match r with
   | none=>R (.ok .next) s1
   | some v=>wpAny (model P w) A (letOwnedTupleGo tg2 it v) (fun _ s1'=>wpAny (model P w) A (assign tg2 env v) (fun _ s2=>
     wpAny (model P w) A (oN ifs env) (fun b s3=>if b=true then wpAny (model P w) A (eval elt env) (fun x s4=>
       wpAny (model P w) A (call (.builtin "list.append") [acc,x]) (fun _ s5=>∃ m,m<n∧I m s5) (fun _ _=>False) s4) (fun _ _=>False) s3 else ∃ m,m<n∧I m s3) (fun _ _=>False) s2)
     (fun _ _=>False) s1') (fun _ _=>False) s1) (fun _ _=>False) s)
  (n:Nat) (h:I n s):codeAny (model P w) A (.compLoop (LC2 elt tg iter tg2 iter2 ifs scope pos) 1 it acc env) R s:=by
 refine codeAny_loop rfl I (fun n s hI=>?_) n h
 show wpAny _ A ((compTurn (LC2 elt tg iter tg2 iter2 ifs scope pos) 1 it acc env).onRaise (fun x=>do noteFrame x env; theTreesLotGoes x)) _ _ s
 refine wpAny_noted ?_
 rw [xt]
 refine wpAny_bind (wpAny_standAt (wpAny_bind (wpAny_mono (turn n s hI) (fun r s1 h1=>?_) fun _ _ z=>z.elim)))
 cases r with
 | none=>exact wpAny_pure h1
 | some v=>
  refine wpAny_bind (wpAny_mono h1 (fun _ s1' h1'=>?_) fun _ _ z=>z.elim)
  refine wpAny_bind (wpAny_mono h1' (fun _ s2 h2=>wpAny_bind (wpAny_mono h2 (fun ok s3 h3=>?_) fun _ _ z=>z.elim)) fun _ _ z=>z.elim)
  cases ok with
  | true=>exact wpAny_bind (wpAny_bind (wpAny_mono h3 (fun x s4 h4=>wpAny_bind (wpAny_mono h4 (fun _ s5 h5=>wpAny_pure (wpAny_pure ⟨rfl,h5⟩)) fun _ _ z=>z.elim)) fun _ _ z=>z.elim))
  | false=>exact wpAny_bind (wpAny_pure (wpAny_pure ⟨rfl,h3⟩))
theorem wv (h0:codeAny (model P w) A (.compLoop (LC2 elt tg iter tg2 iter2 ifs scope pos) 1 it acc env) R s)
  (h:wpAny (model P w) A (pyIter it) (fun jt s'=>codeAny (model P w) A (.compLoop (LC2 elt tg iter tg2 iter2 ifs scope pos) 1 jt acc env) R s') (fun _ _=>False) s) :
  codeAny (model P w) A (.compStart (LC2 elt tg iter tg2 iter2 ifs scope pos) 1 it acc env) R s:=by
 refine codeAny_of_tree ?_
 show wpAny _ _ ((compStart (LC2 elt tg iter tg2 iter2 ifs scope pos) 1 it acc env).onRaise (fun x=>do noteFrame x env; standAt theWindowsPlace)) _ _ s
 refine wpAny_notedAt ?_
 unfold compStart
 show wpAny _ _ (ask>>=_) _ _ s
 refine wpAny_bind (wpAny_askSetting (wpAny_ite ?_))
 split
 ·first
   | exact wpAny_bind (wpAny_pure (wpAny_pure (And.intro rfl h0)))
   | exact wpAny_pure (And.intro rfl h0)
 ·refine wpAny_bind (wpAny_rule ?_)
  show wpAny _ _ (standAt iter2.pos>>=_) _ _ s
  exact wpAny_bind (wpAny_standAt (wpAny_bind (wpAny_mono h (fun jt s' h'=>wpAny_pure (And.intro rfl h')) fun _ _ z=>z.elim)))
end
def PTs (X:Cx) (ifs:List Expr) (t:TT):Prop:=
 ∀ (pins:List (Addr×Obj)) (s:Shared) (σ:St) (H:Hp) (Q:Bool→Hp→Prop),Inv X pins σ H s→t σ H Q→wpAny (model X.prog X.w) X.A (oN ifs X.env) (TP X pins σ Q) X.xe s
def um:TT:=fun _ H Q=>Q true H
theorem pb {X:Cx}:PTs X [] um:=fun pins s σ H Q I h=>wpAny_tests_nil ⟨H,I,h⟩
def lq (n:Nat) (J:It) (g:TG) (wi2:TI) (g2:TG) (tc:TT) (te:TE) (σ:St) (H:Hp) (Q:VK):Prop:=
  ∃ W:Nat→Nat→List V→St→Hp→Prop,(∃ m,W 0 m [] (List.replicate n none++σ) H)∧∀ i m ys σ' H,W i m ys σ' H→
    (J.stop i H∧∀ D,H D=none→Q (.ref D) (upd H D (.lst ys)))∨
    (J.go i H∧∀ x H',J.yld i H x H'→g x σ' H' fun σ2 H2=>wi2 σ2 H2 fun J2 H3=>∃ U:Nat→Nat→List V→St→Hp→Prop,(∃ l,U 0 l ys σ2 H3)∧∀ j l zs σ4 H4,U j l zs σ4 H4→zs.length≤sizeLine∧
      ((J2.stop j H4∧∃ m',m'<m∧W (i+1) m' zs σ4 H4)∨
       (J2.go j H4∧zs.length<sizeLine∧∀ x H',J2.yld j H4 x H'→g2 x σ4 H' fun σ5 H5=>tc σ5 H5 fun b H6=>if b=true then ∃ N:VK,te σ5 H6 N∧∀ v H7,N v H7→∃ l',l'<l∧U (j+1) l' (zs++[v]) σ5 H7 else ∃ l',l'<l∧U (j+1) l' zs σ5 H6)))
def wt (n:Nat) (wi:TI) (g:aK TG) (wi2:aK TI) (g2:aK TG) (tc:aK TT) (te:aK TE):TE:=fun σ H Q=>wi σ H fun J H1=>∀ cl C ex s Hc,lq n J (g cl C ex s Hc) (wi2 cl C ex s Hc) (g2 cl C ex s Hc) (tc cl C ex s Hc) (te cl C ex s Hc) σ H1 Q
abbrev lsO (us:List Value) (k:Nat):Obj:={cls:=.type "list",data:=.seq us.toArray k}
theorem Inv.grown {X:Cx} {D:Addr} {R:List (Addr×Obj)} {us us':List Value} {k k':Nat} {σ:St} {H:Hp} {s:Shared} {h8:Heap} (I:Inv X ((D,lsO us k)::R) σ H s) (hs8:Heap.SameBut D s.heap h8) (hD8:h8.get? D=some (lsO us' k')) (ab:X.s₀.heap.objs.size≤D)
  (hcell:∀ x c,X.env.cells.lookup x=some c→c≠D) (hR:∀ p∈X.pn++R,p.1≠D):Inv X ((D,lsO us' k')::R) σ H {s with heap:=h8}:=by
 obtain⟨_,nD,lD,fD,_⟩:=I.pin (D,lsO us k) (List.mem_append_right _ List.mem_cons_self)
 have I8:Inv X R σ H {s with heap:=h8}:=(I.pins_of (pins':=R) fun p hp=>I.pin p (List.mem_append_right _ (List.mem_cons_of_mem _ hp))).turned (t':=s.toks) (it:=D) (fun b o hb e=>(hs8.2 b hb).trans e) nD lD (.inr ab) hcell hR
 refine I8.pins_of fun p hp=>?_
 rcases List.mem_cons.mp hp with rfl | hp
 ·exact⟨hD8,nD,lD,fD,fun v z=>by cases z⟩
 ·exact I8.pin p (List.mem_append_right _ hp)
section
variable {X:Cx} {n:Nat} {N':List Str} {scope:Scope} {elt tg iter tg2 iter2:Expr} {ifs:List Expr} {pos:Pos} {pins:List (Addr×Obj)} {σ:St} {H2:Hp} {s2:Shared} {cl:List (Str×Addr)}
theorem mM {it:Addr} {fp:List Addr} {tn:Nat→Heap→Prop} {J:It} {g g2:aK TG} {wi2:aK TI} {tc:aK TT} {te:aK TE} {Q:VK} {E:Value→Shared→Prop}
  (hE:∀ v s,¬ X.xe v s) (hc:X.calm=true) (S:bU n N' X scope) (c1:∀ x c,cl.lookup x=some c→X.env.cells.lookup x=some c) (c2:∀ x∈scope.names,x.2=.free→∃ c,cl.lookup x.1=some c)
  (I2:Inv X pins σ H2 s2) (T:kY X.prog X.w X.K tg J fp it tn) (st2:tn 0 s2.heap) (f2:∀ b∈fp,fX X pins H2 b)
  (hg:∀ cl C ex s H,PG (ax X N' scope cl C ex s H) tg (g cl C ex s H)) (hi2:∀ cl C ex s H,PI (ax X N' scope cl C ex s H) tg2 iter2 (wi2 cl C ex s H)) (hg2:∀ cl C ex s H,PG (ax X N' scope cl C ex s H) tg2 (g2 cl C ex s H)) (htc:∀ cl C ex s H,PTs (ax X N' scope cl C ex s H) ifs (tc cl C ex s H)) (hs2:∀ cl C ex s H x,foldedSetIterable iter2 (ax X N' scope cl C ex s H).env x=pure x) (he:∀ cl C ex s H,PE (ax X N' scope cl C ex s H) elt (te cl C ex s H))
  (cok:∀ cl C ex s Hc,lq n J (g cl C ex s Hc) (wi2 cl C ex s Hc) (g2 cl C ex s Hc) (tc cl C ex s Hc) (te cl C ex s Hc) σ H2 Q) :
  wpAny (model X.prog X.w) X.A (newList []) (fun acc s3=>wpAny (model X.prog X.w) X.A (newFunctionEnv scope X.env.globals cl [] X.env.qual none .none (some X.env)) (fun cenv s4=>
   codeAny (model X.prog X.w) X.A (.compStart (LC2 elt tg iter tg2 iter2 ifs scope pos) 0 (.ref it) acc {cenv with scope:=relabel scope X.env})
    (fun r s'=>match r with | .ok _=>dm X pins σ Q acc cenv.locals s' | .error _=>False) s4) E s3) E s2:=by
 have fl:∀ b∈fp,@LT.lt Nat _ b s2.heap.objs.size:=fun b hb=>by
  obtain⟨o,e,_⟩:=T.obj _ _ st2 b hb
  exact Heap.lt_size e
 have frl:∀ b∈frs X.stack,@LT.lt Nat _ b s2.heap.objs.size:=fun b hb=>by
  obtain⟨_,o,ho,_⟩:=I2.stack.mem hb
  exact Heap.lt_size ho
 have celll:∀ x c,X.env.cells.lookup x=some c→@LT.lt Nat _ c s2.heap.objs.size:=fun x c e=>by
  obtain⟨v,q⟩:=I2.cell x c e
  exact q.lt
 refine wpAny_newObj_type (wpAny_newFunctionEnv S.cell (by intro y hy; simp at hy) (fun h1 hns1 hsb1=>?_) S.kind)
 dsimp only at hns1 hsb1 ⊢
 generalize hH2:s2.heap.push {cls:=.type "list",dict:=none,data:=.seq ([]:List Value).toArray}=G at hns1 hsb1 ⊢
 have hC:@Eq Nat G.objs.size (s2.heap.objs.size+1):=by rw [← hH2,Heap.size_push]
 have hDC:s2.heap.objs.size≠G.objs.size:=by show @Ne Nat _ _; omega
 have below:∀ b,@LT.lt Nat _ b s2.heap.objs.size→b≠G.objs.size∧b≠s2.heap.objs.size:=fun b hb=>⟨by show @Ne Nat _ _; omega,Nat.ne_of_lt hb⟩
 have old:∀ b o,s2.heap.get? b=some o→h1.get? b=some o:=fun b o e=>hsb1.extBut b o (below b (Heap.lt_size e)).1 (Heap.get?_push_of_some _ (hH2▸Heap.get?_push_of_some _ e))
 have hacc:h1.get? s2.heap.objs.size=some {cls:=.type "list",data:=.seq ([]:List Value).toArray 0}:=hsb1.extBut _ _ hDC (Heap.get?_push_of_some _ (hH2▸Heap.get?_push_size _ rfl))
 have hst1:tn 0 h1:=T.keep _ _ _ st2 fun b hb o e=>old b o e
 let X':=ax X N' scope cl G.objs.size fp s2 H2
 obtain⟨W,⟨m0,w0⟩,turn⟩:=cok cl G.objs.size fp s2 H2
 have hXe:X'.xe=X.xe:=rfl
 have stat:∀ {H':Hp} {ps:List (Addr×Obj)},(∀ b∈fp,H' b=none)→(∀ p∈ps,p.1=s2.heap.objs.size)→∀ b∈fp,fX X' ps H' b:=fun {H' ps} hn hp b hb=>by
  obtain⟨f0,f1,ff,f3,f4,f5⟩:=f2 b hb
  refine⟨hn b hb,(below b (fl b hb)).1,fun z=>?_,.inl hb,fun x c e z=>?_,fun p hp' z=>?_⟩
  ·exact(List.mem_cons.mp (I2.stkSub b z)).elim f1 ff
  ·exact f4 x c (c1 x c e) z
  ·have e:p.1=s2.heap.objs.size:=hp p (by simpa [X',ax] using hp')
   exact(below b (fl b hb)).2 (z.symm.trans e)
 have loop:∀ s3:Shared,s3={s2 with heap:=h1,toks:=s2.toks+([]:List (Str×Value)).length}→
   codeAny (model X.prog X.w) X.A (.compLoop (LC2 elt tg iter tg2 iter2 ifs scope pos) 0 (.ref it) (.ref s2.heap.objs.size) (compEnvC scope cl G.objs.size X.env))
    (fun r s'=>match r with | .ok _=>dm X pins σ Q (.ref s2.heap.objs.size) G.objs.size s' | .error _=>False) s3:=by
  rintro s3 rfl
  have I3:=ju (us:=[]) (k:=0) (s':={s2 with heap:=h1,toks:=s2.toks+([]:List (Str×Value)).length}) S c1 c2 I2 f2 fl rfl hC rfl rfl old ⟨_,hns1⟩ hacc
  refine yk (hs:=hs2 cl G.objs.size fp s2 H2) (fun m s'=>∃ i ys us k σ' H',Inv X' [(s2.heap.objs.size,lsO us k)] σ' H' s'∧aI ys us∧tn i s'.heap∧(∀ b∈fp,H' b=none)∧ys.length≤sizeLine∧W i m ys σ' H') ?_ m0
   ⟨0,[],[],0,_,H2,I3,.nil,hst1,fun b hb=>(f2 b hb).1,Nat.zero_le _,w0⟩
  rintro m s' ⟨i,ys,us,k,σ',H',I',rv,st',fr',hlen,w'⟩
  rcases turn i m ys σ' H' w' with ⟨stop,q⟩ | ⟨go,step⟩
  ·refine thn (T.done X' rfl rfl rfl hc i _ s' σ' H' _ I' (stat fr' (by simp)) st' stop) fun r s4 ⟨hr,I4⟩=>?_
   subst hr
   show dm X pins σ Q (.ref s2.heap.objs.size) G.objs.size s4
   obtain⟨m1,hn1,_⟩:=I4.loc
   obtain⟨pD,nD,_,_,_⟩:=I4.pin (s2.heap.objs.size,{cls:=.type "list",data:=.seq us.toArray k}) (List.mem_append_right _ (by simp))
   have nD:H' s2.heap.objs.size=none:=nD
   have pD:s4.heap.get? s2.heap.objs.size=some {cls:=.type "list",data:=.seq us.toArray k}:=pD
   have hok:HOk X.prog X.w (upd H' s2.heap.objs.size (.lst ys)) s4.heap:=fun b u e=>by
    by_cases hb:b=s2.heap.objs.size
    ·subst hb
     rw [ac] at e; cases e
     exact⟨hlen,us,k,rv,pD⟩
    ·rw [ag hb] at e
     exact(I4.hok b u e).stay (fun _ _ _ q=>q) (fun c q=>by rw [ag (al q nD)]; exact q) fun c xs q=>by rw [ag (al q nD)]; exact q
   have un:Un (frs X.stack) fp H2 (upd H' s2.heap.objs.size (.lst ys)) s2.heap s4.heap:=by
    have u0:=I4.base
    refine⟨u0.keep,u0.slot,fun b o e n hx=>?_,u0.there,fun b xs e=>?_,fun b o xs e=>?_,fun b ps e=>?_⟩
    ·rw [ag (below b (Heap.lt_size e)).2]; exact u0.free b o e n hx
    ·have q:=u0.tups b xs e
     rw [ag (al q nD)]; exact q
    ·have q:=u0.frzs b o xs e
     rw [ag (al q nD)]; exact q
    ·obtain⟨more,q⟩:=u0.tbls b ps e
     exact⟨more,by rw [ag (al q nD)]; exact q⟩
   have IX:Inv X pins σ (upd H' s2.heap.objs.size (.lst ys)) s4:=I2.call' (ch:=fp) I4.os un hok I4.bare fun b hb=>by
    obtain⟨f0,f1,ff,f3,f4,f5⟩:=f2 b hb
    exact⟨f3,f1,f4,f5⟩
   have hG0:H' G.objs.size=none:=I4.free
   refine⟨s2.heap.objs.size,_,m1,rfl,IX,hn1,⟨by rw [ag (Ne.symm hDC)]; exact hG0,fun z=>?_,fun z=>?_,.inr ?_,fun x c e z=>?_,fun p hp z=>?_⟩,q _ nD⟩
   ·have q1:@LT.lt Nat _ X.env.locals s2.heap.objs.size:=I2.lt
    have q2:@Eq Nat G.objs.size X.env.locals:=z
    omega
   ·have z':G.objs.size∈frs X.outer:=z
    obtain⟨_,o,ho,_⟩:=I2.funs.mem z'
    have q1:@LT.lt Nat _ G.objs.size s2.heap.objs.size:=Heap.lt_size ho
    omega
   ·have q1:=I2.sz
    show @LE.le Nat _ X.s₀.heap.objs.size G.objs.size
    omega
   ·have q1:=celll x c e
    have q2:@Eq Nat c G.objs.size:=z
    omega
   ·have q1:@LT.lt Nat _ p.1 s2.heap.objs.size:=Heap.lt_size (I2.pin p hp).1
    have q2:@Eq Nat p.1 G.objs.size:=z
    omega
  ·have hcD:∀ x c,cl.lookup x=some c→c≠s2.heap.objs.size:=fun x c e=>Nat.ne_of_lt (celll x c (c1 x c e))
   refine thn (T.item X' rfl rfl rfl hc i _ s' σ' H' _ I' (stat fr' (by simp)) st' go) fun r s4 ⟨u,hr,h4⟩=>?_
   subst hr
   show wpAny _ _ (letOwnedTupleGo tg (.ref it) u) _ _ s4
   refine thn h4 fun _ s5 ⟨x,H5,I5,r5,y5,st5,fr5⟩=>?_
   have I5':Inv X' ((s2.heap.objs.size,lsO us k)::bI fp s5.heap) σ' H5 s5:=I5.pinned (stat fr5 (by simp)) (T.obj _ _ st5)
   have noD:∀ p∈X'.pn++bI fp s5.heap,p.1≠s2.heap.objs.size:=fun p hp=>by
    have hp':p∈bI fp s5.heap:=by simpa [X',ax] using hp
    exact(below p.1 (fl p.1 (eI hp').1)).2
   have w1:=hg cl G.objs.size fp s2 H2 _ s5 σ' H5 x u _ I5' r5 (step x H5 y5)
   refine wpAny_mono w1 (fun _ s6 ⟨σ6,H6,I6,q6⟩=>?_) fun v s hv=>absurd hv (hE v s)
   refine wpAny_mono (hi2 cl G.objs.size fp s2 H2 _ s6 σ6 H6 _ I6 q6) (fun v s7 h7=>wpAny_mono h7 (fun jv s8 h8=>?_) fun v s hv=>absurd hv (hE v s)) fun v s hv=>absurd hv (hE v s)
   obtain⟨jt,fp2,tn2,J2,H8,rfl,I8,T2,st8,f8,U,⟨l0,u0⟩,uturn⟩:=h8
   have f8':∀ {H9:Hp} {us9:List Value} {k9:Nat},(∀ b∈fp2,H9 b=none)→∀ b∈fp2,fX X' ((s2.heap.objs.size,lsO us9 k9)::bI fp s5.heap) H9 b:=fun {H9 us9 k9} hn b hb=>by
    obtain⟨a0,a1,a2,a3,a4,a5⟩:=f8 b hb
    refine⟨hn b hb,a1,a2,a3,a4,fun p hp=>?_⟩
    rcases List.mem_append.mp hp with hp | hp
    ·exact a5 p (List.mem_append_left _ hp)
    ·rcases List.mem_cons.mp hp with rfl | hp
     ·exact a5 (s2.heap.objs.size,lsO us k) (List.mem_append_right _ List.mem_cons_self)
     ·exact a5 p (List.mem_append_right _ (List.mem_cons_of_mem _ hp))
   have inner:codeAny (model X.prog X.w) X.A (.compLoop (LC2 elt tg iter tg2 iter2 ifs scope pos) 1 (.ref jt) (.ref s2.heap.objs.size) (compEnvC scope cl G.objs.size X.env))
     (fun r s5=>match r with | .ok _=>∃ m',m'<m∧(∃ i ys us k σ' H',Inv X' [(s2.heap.objs.size,lsO us k)] σ' H' s5∧aI ys us∧tn i s5.heap∧(∀ b∈fp,H' b=none)∧ys.length≤sizeLine∧W i m' ys σ' H') | .error _=>False) s8:=by
    refine yj (fun l s'=>∃ j zs us k σ4 H4,Inv X' ((s2.heap.objs.size,lsO us k)::bI fp s5.heap) σ4 H4 s'∧aI zs us∧tn2 j s'.heap∧(∀ b∈fp2,H4 b=none)∧U j l zs σ4 H4) ?_ l0 ⟨0,ys,us,k,σ6,H8,I8,rv,st8,fun b hb=>(f8 b hb).1,u0⟩
    rintro l s' ⟨j,zs,us,k,σ4,H4,I',rv,st',fr',u'⟩
    obtain⟨hlen,⟨stop,m',hm',w'⟩ | ⟨go,hlt,step⟩⟩:=uturn j l zs σ4 H4 u'
    ·refine thn (T2.done X' rfl rfl rfl hc j _ s' σ4 H4 _ I' (f8' fr') st' stop) fun r s9 ⟨hr,I9⟩=>?_
     subst hr
     refine⟨m',hm',i+1,zs,us,k,σ4,H4,I9.pins_of fun p hp=>I9.pin p (List.mem_append_right _ (by rw [List.mem_singleton.mp hp]; exact List.mem_cons_self)),rv,T.keep _ _ _ st5 fun b hb o e=>?_,fun b hb=>?_,hlen,w'⟩
     ·exact(I9.pin (b,o) (List.mem_append_right _ (List.mem_cons_of_mem _ (bD hb e)))).1
     ·obtain⟨o,e,d⟩:=T.obj _ _ st5 b hb
      exact(I9.pin (b,o) (List.mem_append_right _ (List.mem_cons_of_mem _ (bD hb e)))).2.1
    ·refine thn (T2.item X' rfl rfl rfl hc j _ s' σ4 H4 _ I' (f8' fr') st' go) fun r s9 ⟨v,hr,h9⟩=>?_
     subst hr
     show wpAny _ _ (letOwnedTupleGo tg2 (.ref jt) v) _ _ s9
     refine thn h9 fun _ sA ⟨x,HA,IA,rA,yA,stA,frA⟩=>?_
     have IA':Inv X' ((s2.heap.objs.size,lsO us k)::(bI fp s5.heap++bI fp2 sA.heap)) σ4 HA sA:=IA.pinned (f8' frA) (T2.obj _ _ stA)
     have noD2:∀ p∈X'.pn++(bI fp s5.heap++bI fp2 sA.heap),p.1≠s2.heap.objs.size:=fun p hp=>by
      rcases List.mem_append.mp hp with hp | hp
      ·exact noD p (List.mem_append_left _ hp)
      ·rcases List.mem_append.mp hp with hp | hp
       ·exact noD p (List.mem_append_right _ hp)
       ·obtain⟨_,_,_,_,_,a5⟩:=f8 p.1 (eI hp).1
        exact Ne.symm (a5 (s2.heap.objs.size,lsO _ _) (List.mem_append_right _ List.mem_cons_self))
     have w1:=hg2 cl G.objs.size fp s2 H2 _ sA σ4 HA x v _ IA' rA (step x HA yA)
     refine wpAny_mono w1 (fun _ sB ⟨σB,HB,IB,qB⟩=>?_) fun v s hv=>absurd hv (hE v s)
     have keepT:∀ {pins':List (Addr×Obj)} {sC:Shared} {σC:St} {HC:Hp},Inv X' (pins'++bI fp2 sA.heap) σC HC sC→tn2 (j+1) sC.heap∧∀ b∈fp2,HC b=none:=fun {pins' sC σC HC} IC=>by
      refine⟨T2.keep _ _ _ stA fun b hb o e=>(IC.pin (b,o) (List.mem_append_right _ (List.mem_append_right _ (bD hb e)))).1,fun b hb=>?_⟩
      obtain⟨o,e,d⟩:=T2.obj _ _ stA b hb
      exact(IC.pin (b,o) (List.mem_append_right _ (List.mem_append_right _ (bD hb e)))).2.1
     refine wpAny_mono (htc cl G.objs.size fp s2 H2 _ sB σB HB _ IB qB) (fun b sC ⟨HC,IC,qC⟩=>?_) fun v s hv=>absurd hv (hE v s)
     cases b with
     | false=>
      rw [if_neg Bool.false_ne_true] at qC ⊢
      obtain⟨l',hl',uC⟩:=qC
      obtain⟨k1,k2⟩:=keepT (pins':=(s2.heap.objs.size,lsO us k)::bI fp s5.heap) IC
      exact⟨l',hl',j+1,zs,us,k,σB,HC,IC.pins_of fun p hp=>IC.pin p (List.mem_append_right _ (by rcases List.mem_cons.mp hp with rfl | hp; exact List.mem_cons_self; exact List.mem_cons_of_mem _ (List.mem_append_left _ hp))),rv,k1,k2,uC⟩
     | true=>
      rw [if_pos rfl] at qC ⊢
      obtain⟨NN,qC,hNN⟩:=qC
      refine wpAny_mono (he cl G.objs.size fp s2 H2 _ sC σB HC _ IC qC) (fun y sD ⟨v,HD,ID,rD,qD⟩=>?_) fun v s hv=>absurd hv (hE v s)
      obtain⟨l',hl',uD⟩:=hNN v HD qD
      obtain⟨pD,nD,lD,fD,_⟩:=ID.pin (s2.heap.objs.size,lsO us k) (List.mem_append_right _ List.mem_cons_self)
      refine append_at (hsz:=by rw [List.size_toArray,← rv.length]; exact hlen) pD fun h9 hs9 hD9=>?_
      have IE:Inv X' ((s2.heap.objs.size,lsO (us++[y]) (k+1))::(bI fp s5.heap++bI fp2 sA.heap)) σB HD {sD with heap:=h9}:=ID.grown hs9 (by rw [hD9,List.push_toArray]) (Nat.le_refl _) hcD noD2
      obtain⟨k1,k2⟩:=keepT (pins':=(s2.heap.objs.size,lsO (us++[y]) (k+1))::bI fp s5.heap) IE
      exact⟨l',hl',j+1,zs++[v],us++[y],k+1,σB,HD,IE.pins_of fun p hp=>IE.pin p (List.mem_append_right _ (by rcases List.mem_cons.mp hp with rfl | hp; exact List.mem_cons_self; exact List.mem_cons_of_mem _ (List.mem_append_left _ hp))),rv.append (.cons rD .nil),k1,k2,uD⟩
   exact wv inner (T2.self _ 0 _ _ _ st8 inner)
 exact codeAny_compStart_list (loop _ rfl) (T.self _ 0 _ _ _ hst1 (loop _ rfl))
theorem iw {wi:TI} {g g2:aK TG} {wi2:aK TI} {tc:aK TT} {te:aK TE} {i:Nat} {x:Str} {pos' spos:Pos} (hN:X.N.Nodup) (hi0:X.N[i]? = some x) (hx:Loc X.env.scope x)
  (hsw:swapsWith (LC2 elt tg iter tg2 iter2 ifs scope pos) (some (.Name x pos')) spos.line X.env=pure true)
  (hE:∀ v s,¬ X.xe v s) (hc:X.calm=true) (S:bU n N' X scope) (hi:PI X tg iter wi)
  (hg:∀ cl C ex s H,PG (ax X N' scope cl C ex s H) tg (g cl C ex s H)) (hi2:∀ cl C ex s H,PI (ax X N' scope cl C ex s H) tg2 iter2 (wi2 cl C ex s H)) (hg2:∀ cl C ex s H,PG (ax X N' scope cl C ex s H) tg2 (g2 cl C ex s H)) (htc:∀ cl C ex s H,PTs (ax X N' scope cl C ex s H) ifs (tc cl C ex s H)) (he:∀ cl C ex s H,PE (ax X N' scope cl C ex s H) elt (te cl C ex s H))
  (hs:∀ x,foldedSetIterable iter X.env x=pure x:=by intro _; rfl) (hs2:∀ cl C ex s H x,foldedSetIterable iter2 (ax X N' scope cl C ex s H).env x=pure x:=by intro _ _ _ _ _ _; rfl) (hf:X.fn x=true∨X.env.scope.names.lookup x=some .local:=by first | exact .inl rfl | exact .inr rfl | assumption) :
  PS X (.Assign [.Name x pos'] (LC2 elt tg iter tg2 iter2 ifs scope pos) spos) (pW (wt n wi g wi2 g2 tc te) (dQ i)):=by
 intro pins s σ H D I h
 rw [exec_Assign_Name_used _ _ _ _ hsw]
 refine wpAny_bind (wpAny_standAt (wpAny_bind ?_))
 obtain⟨cl,hcl,c1,c2⟩:=d5 (scope:=scope) (env:=X.env) fun x hx hf=>I.ok.has x.1 (S.free x hx hf)
 show wpAny _ _ (do let _ ← comprehension (LC2 elt tg iter tg2 iter2 ifs scope pos) scope X.env _ (newList []) false (eval iter X.env) (some (assign (.Name x pos') X.env))) _ _ s
 refine wpAny_bind (wpAny_mono (wpAny_comprehension_free (use:=some (assign (.Name x pos') X.env)) (Q:=fun _ s'=>SP X pins D .next s') rfl hs hcl S.kind S.names
  (thn (hi pins s σ H _ I h) fun v s1 h1=>thn h1 fun itv s2 h2=>?_)) (fun _ s' hq=>wpAny_pure (wpAny_pure hq)) fun _ _ e=>e)
 obtain⟨it,fp,tn,J,H2,e,I2,T,st2,f2,cok⟩:=h2
 subst e
 refine wpAny_mono (mM (pos:=pos) (iter:=iter) (E:=X.xe) (Q:=fun x H1=>dQ i x σ H1 D.nx) hE hc S c1 c2 I2 T st2 f2 hg hi2 hg2 htc hs2 he cok) (fun acc s3 h3=>wpAny_mono h3 (fun cenv s4 h4=>codeAny_mono h4 fun r s' hr=>?_) fun _ _ z=>z) fun _ _ z=>z
 cases r with
 | error e=>exact False.elim hr
 | ok f=>
  obtain⟨Dl,H',m,rfl,I',hn,⟨f0,f1,ff,f3,f4,f5⟩,q⟩:=hr
  show wpAny _ _ (assign (.Name x pos') X.env (.ref Dl)) _ _ s'
  refine wpAny_assign_Name (fM I' hN hi0 hx (v:=.ref Dl) (u:=.ref Dl) rfl (fun s'' I'' hb=>?_) hf)
  obtain⟨a,sb,ha⟩:=hb
  have hCa:cenv.locals≠a:=by
   rcases ha with rfl | ha
   ·exact f1
   ·exact fun z=>f4 x a ha z.symm
  refine⟨m,hn.sameBut sb hCa,fun h' hs'=>⟨_,H',?_,q⟩⟩
  exact I''.turned (t':=s''.toks) (fun b o hb e=>(hs'.2 b hb).trans e) f0 f1 f3 f4 f5
end
end L2
set_option maxHeartbeats 1000000
namespace L2
open PySem PySem.Spec PyProof.Rows
section
variable {X:Cx}
theorem sE:MtR X "list.index" (fun x xs H Q=>∃ (p:Addr) (ys:List Str) (k:Str),x=.ref p∧xs=[.str k]∧SqL X.K H p (ys.map V.str)∧k∈ys∧Q (.int (ys.idxOf k:Nat)) H):=by
 intro pins s σ H x xs v us Q I rx rs h
 obtain⟨p,ys,k,rfl,rfl,hq,hk,q⟩:=h
 cases rx
 obtain⟨u,rfl,t,rfl⟩:=eB rs
 obtain⟨its,r',pl,hz⟩:=I.list hq
 obtain⟨⟨cls,dd,data,sl⟩,ho,hc,n,hd⟩:=pl.isList
 simp only at hc hd
 subst hc hd
 have hlen:=r'.length
 rw [List.length_map] at hlen hz
 have hj:ys.idxOf k<ys.length:=List.idxOf_lt_length_iff.mpr hk
 have at_:∀ (j:Nat) (h1:j<its.length) (h2:j<ys.length),∃ t,its[j]=Value.str ys[j] t:=fun j h1 h2=>by
  obtain⟨u,hu,ru⟩:=r'.get (i:=j) (x:=V.str ys[j]) (by simp [h2])
  obtain⟨t,rfl⟩:=ru
  exact⟨t,by rw [List.getElem?_eq_getElem h1] at hu; exact Option.some.inj hu⟩
 let e:Value→Bool:=fun y=>match y with | .str z _=>z==k | _=>false
 refine call_meets PySem.F.slot_list_index ⟨_,ho,rfl⟩ PySem.F.entry_list_index (PySem.F.args_list_index_2 _ _)
  (SeqAt.list_indexAt p its.toArray n dd sl (.str k t) e (ys.idxOf k) (by simpa [← hlen] using hj) (Int.lt_of_lt_of_le (Int.ofNat_lt.mpr hj) (Int.le_trans (Int.ofNat_le.mpr hz) (by decide))) ?_ ?_) ⟨ho,fun y hy=>?_,⟨.int (ys.idxOf k:Nat),H,I.tok _,⟨_,rfl⟩,q⟩⟩
 ·obtain⟨t',e'⟩:=at_ (ys.idxOf k) (by omega) hj
  show e its[ys.idxOf k]=true
  rw [e']
  show (ys[ys.idxOf k]==k)=true
  simpa using List.getElem_idxOf hj
 ·intro j hjs hlt
  have h1:j<its.length:=by simpa using hjs
  obtain⟨t',e'⟩:=at_ j h1 (by omega)
  show e its[j]=false
  rw [e']
  show (ys[j]==k)=false
  exact List.not_of_lt_findIdx hlt
 ·have hy':y∈its:=by simpa using hy
  obtain⟨j,h1,rfl⟩:=List.getElem_of_mem hy'
  obtain⟨t',e'⟩:=at_ j h1 (by omega)
  rw [e']
  exact(eqGives_str _ _ _ _).at _ _
theorem mS:cX X (.type "range") (fun xs H Q=>∃ n:Int,xs=[.int n]∧∀ p,H p=none→Q (.ref p) (upd H p (.rng 0 n))):=by
 intro pins s σ H xs us Q I r h
 obtain⟨n,rfl,q⟩:=h
 obtain⟨u,rfl,t,rfl⟩:=eB r
 exact call_range_1 ⟨.ref s.heap.objs.size,_,I.laid (t':=s.toks+1+1) (fun b o e=>Heap.get?_push_of_some _ e) (Nat.le_refl _) (o:=.rng 0 n) ⟨_,_,_,Heap.get?_push_size _ rfl⟩,rfl,q _ (I.hok.fresh (Nat.le_refl _))⟩
def upN (n:Nat):List Int:=(List.range n).map fun (i:Nat)=>(i:Int)
theorem oE (hc:X.calm=true):cX X (.type "list") (fun xs H Q=>∃ (p:Addr) (n:Nat),xs=[.ref p]∧H p=some (.rng 0 n)∧n≤1000∧∀ l,H l=none→Q (.ref l) (upd H l (.lst ((upN n).map V.int)))):=by
 intro pins s σ H xs us Q I r h
 obtain⟨p,n,rfl,hp,hn,q⟩:=h
 obtain⟨u,rfl,rx⟩:=eB r
 cases rx
 obtain⟨t,u,v,hr⟩:=(show bh X.prog X.w H s.heap p (.rng 0 n) from I.hok p _ hp)
 have hsz:Builtin.Range.rangeSize 0 (n:Int) 1=(n:Nat):=by rw [rangeSize_one]; split <;> omega
 refine call_list_range (I.ok.hd hc) hr (small_one (by decide) (by decide) (by omega) (by omega)) hsz (by omega) fun h' tk acc c kp hget hit=>?_
 have hl:acc.toList.length=n:=by rw [Array.length_toList]; exact hit.1
 have rel:∀ (m k:Nat) (l:List Value),l.length=m→(∀ (i:Nat) (w:Value),l[i]? = some w→∃ t,w=.int ((k+i:Nat):Int) t)→aI (((List.range' k m).map fun (i:Nat)=>(i:Int)).map V.int) l:=by
  intro m
  induction m with
  | zero=>intro k l e _; rw [List.length_eq_zero_iff.mp e]; exact .nil
  | succ m ih=>
   intro k l e f
   cases l with
   | nil=>simp at e
   | cons x l=>
    rw [List.range'_succ,List.map_cons,List.map_cons]
    refine .cons ?_ (ih (k+1) l (by simpa using e) fun i w hw=>?_)
    ·obtain⟨t,e⟩:=f 0 x (by simp)
     exact⟨t,by simpa using e⟩
    ·have:=f (i+1) w (by simpa using hw)
     rw [show k+1+i=k+(i+1) from by omega]; exact this
 refine⟨.ref s.heap.objs.size,_,I.laid (t':=tk) kp (Nat.le_refl _) (show bh X.prog X.w _ h' _ (.lst ((upN n).map V.int)) from ⟨?_,acc.toList,c,?_,?_⟩),rfl,q _ (I.hok.fresh (Nat.le_refl _))⟩
 ·rw [List.length_map]; unfold upN; rw [List.length_map,List.length_range]; exact Nat.le_trans hn (by decide)
 ·have:=rel n 0 acc.toList hl fun i w hw=>by
   obtain⟨t,e⟩:=hit.2 i w (by rw [← Array.getElem?_toList]; exact hw)
   exact⟨t,by rw [e]; simp⟩
  rw [← List.range_eq_range'] at this
  exact this
 ·rw [hget]
end
end L2
set_option maxHeartbeats 4000000
namespace L2
open PySem PySem.Spec PyProof.Rows
section
variable {prog:Program} {w:World} {A:Around} {E:Value→Shared→Prop} {h:Heap} {g:Array GenState} {d:Drawn} {t:Nat} {os:OsState} {C N fI:Addr} {bm bs:List Value} {nm q:Str} {hdct:Bool} {sn:List Str} {sub:List Value} {ab:Bool} {col:Option Bool} {dd:Option Addr} {k0 k1 k2 k3 k5:Option Value} {mN:Str→Option Value} {us:List Value} {oI:Obj}
end
end L2
namespace L2
open PySem PySem.Spec PyProof.Rows Builtin Builtin.ObjectAttr
section
variable {prog:Program} {w:World} {A:Around} {s:Shared} {K:PySem.W.Frag} {x C:Addr} {ox:Obj} {n:Str} {v:Value}
end
end L2
set_option maxHeartbeats 8000000
namespace L2
open PySem PySem.Spec PyProof.Rows Builtin Builtin.ObjectAttr
section
variable {prog:Program} {w:World} {A:Around} {E:Value→Shared→Prop} {h:Heap} {g:Array GenState} {d:Drawn} {t:Nat} {os:OsState} {a C dx:Addr} {o:Obj} {K:PySem.W.Frag} {n:Str} {v:Value} {mA:Str→Option Value} {cd:ClassData}
end
end L2
set_option maxHeartbeats 4000000
namespace L2
open PySem PySem.Spec PyProof.Rows
def del (H:Hp) (a:Addr):Hp:=fun b=>if b=a then none else H b
section
variable {X:Cx} {pins:List (Addr×Obj)} {σ:St} {H:Hp} {s:Shared} {o value:Expr} {ta tv:TE} {f:Str} {pos pos':Pos}
end
section
variable {X:Cx} {o:Expr} {ta:TE} {f:Str} {pos:Pos}
end
abbrev envX:=@PySem.W.envX
def js (P:Program) (w:World) (K:PySem.W.Frag) (mg:Str→Option Value) (base:Heap) (N:List Str) (qual:Str) (scope:Scope) (cl:List (Str×Addr)) (f:Addr) (cd:Value) (A:Around) (outer:List Env) (s:Shared) (H:Hp) (E:XK):Cx where
 prog:=P
 w:=w
 K:=K
 mg:=mg
 base:=base
 A:=A.deeper (envX qual scope s.heap.objs.size f cd cl)
 N:=N
 s₀:=s
 H₀:=H
 env:=envX qual scope s.heap.objs.size f cd cl
 outer:=outer
 stack:=envX qual scope s.heap.objs.size f cd cl::outer
 ex:=[]
 calm:=true
 fn:=fun _=>false
 pn:=[]
 xe:=fun e s'=>wpAny (model P w) (A.deeper (envX qual scope s.heap.objs.size f cd cl)) (leaving (envX qual scope s.heap.objs.size f cd cl) e) (fun _ s''=>CX1 P w outer H s E e s'') (fun e' s''=>CX1 P w outer H s E e' s'') s'
section
variable {P:Program} {w:World} {K:PySem.W.Frag} {mg:Str→Option Value} {base:Heap} {N:List Str} {name qual:Str} {scope:Scope} {cl:List (Str×Addr)} {f c':Addr} {pm ctv:Value} {A:Around} {outer:List Env} {s:Shared} {H:Hp} {E:XK} {Q:VK} {σ:St} {body:Expr} {te:TE} {k:Nat}
end
theorem iq:∀ {l:List Value} {a b:Nat} {v:Value},TriplesOk l→TriplesOk (l++[rawInt a,rawInt b,v])
 | [],_,_,_,_=>trivial
 | .int _ _::.int _ _::_::r,_,_,_,h=>iq (l:=r) h
theorem kf:∀ {l:List Value} {a b:Nat} {v cv:Value} {q:Pos},TriplesOk l→codeAmong q (l++[rawInt a,rawInt b,v])=some cv→codeAmong q l=some cv∨cv=v
 | [],a,b,v,cv,q,_,h=>by
  have h:(if (((a:Int)==q.line)&&((b:Int)==q.col))=true then some v else none)=some cv:=h
  split at h
  ·exact .inr (Option.some.inj h).symm
  ·cases h
 | .int i _::.int j _::c::r,a,b,v,cv,q,ht,h=>by
  have h:(if ((i==q.line)&&(j==q.col))=true then some c else codeAmong q (r++[rawInt a,rawInt b,v]))=some cv:=h
  show (if ((i==q.line)&&(j==q.col))=true then some c else codeAmong q r)=some cv∨cv=v
  split at h
  ·rename_i z
   rw [if_pos z]; exact .inl h
  ·rename_i z
   rw [if_neg z]; exact kf (l:=r) ht h
def ug (c:Addr) (qual:Str):HO:=HO.ext fun h=>h.CodeRec (.ref c) qual
def TblOk (H:Hp) (T:Addr) (qual:Str):Prop:=∃ ps,H T=some (.tbl ps)∧TriplesOk ps.toList∧∀ q cv,codeAmong q ps.toList=some cv→∃ c,cv=.ref c∧H c=some (ug c qual)
theorem qo {P:Program} {w:World} {K:PySem.W.Frag} {mg mb:Str→Option Value} {CX:CXT} {k:Nat} {fa a T:Addr} {fd:FuncData} {x:Str} {sp:Sp} {s₁:Shared} {vs:List Value} {ns:List Int}
  (KX:K.In s₁.heap) (hns:s₁.heap.Ns mainGlobals mg) (hb:s₁.heap.Ns builtinsNs mb) (hbb:∀ x:Str,x≠"__name__"→mb x=bootBuiltins x) (hlim:s₁.heap.NoLimit) (hsys:∃ mm,s₁.heap.Ns sysModules mm) (hg:s₁.gens=#[])
  (ha:s₁.heap.get? a=some {cls:=.type "list",data:=.seq vs.toArray}) (hi:IntsAre vs ns) (hl:ns.length≤sizeLine) (hr:bN k callerA)
  (hT:s₁.heap.get? T=some (PySem.W.tabObj #[])) (hct:isCodeTable s₁.heap T) (hnt:PySem.W.noTabs K=true) (hbm:∃ bm ob,mg "__builtins__"=some (.ref bm)∧bm≠builtinsNs∧s₁.heap.get? bm=some ob∧ob.cls=.type "module"∧ob.dict=some builtinsNs∧ob.data=.plain)
  (F:∀ base:Heap,K.In base→base.Ns mainGlobals mg→base.BuiltinsAt mg T→dk P w K mg base CX k fa fd [x] sp) (hbind:∀ (s:Shared) (u:Value),BindsTo s fd ⟨[u],[]⟩ [(x,u)])
  (hsp:∀ H:Hp,H T=some (.tbl #[])→SqL K H a (ns.map V.int)→sp [.ref a] H (fun v _=>v=.bl true) fun _ _ _=>False)
  (hCX:∀ H e s',CX [] H s₁ (fun _ _ _=>False) e s'→False) :
  codeAny (model P w) callerA (.call (.ref fa) ⟨[.ref a],[]⟩) (fun r s'=>r=.ok (.ret (.bool true))∧OldK s₁.heap s'.heap∧s'.os=s₁.os∧AllBare s'.gens) s₁:=by
 have rv:=jM hi
 have lenV:=hi.length
 have aT:a≠T:=fun z=>by rw [z,hT] at ha; cases ha
 have KT:K.lookup T=none:=by
  cases q:K.lookup T with
  | none=>rfl
  | some o=>
   have e:=KX T o q
   rw [hT] at e
   cases e
   have h2:=List.all_eq_true.mp hnt (T,_) (PySem.W.mem_of_lookupK q)
   exact absurd (show false=true from h2) Bool.false_ne_true
 have core:∀ H:Hp,H T=some (.tbl #[])→SqL K H a (ns.map V.int)→HOk P w H s₁.heap→(∀ b,H b≠none→b=a∨b=T)→(H a≠none→K.lookup a=none∧H a=some (.frz {cls:=.type "list",data:=.seq vs.toArray} (.lst (ns.map V.int))))→
   codeAny (model P w) callerA (.call (.ref fa) ⟨[.ref a],[]⟩) (fun r s'=>r=.ok (.ret (.bool true))∧OldK s₁.heap s'.heap∧s'.os=s₁.os∧AllBare s'.gens) s₁:=by
  intro H hHT hS hok hA hK
  have no:∀ {b:Addr} {o:Obj},s₁.heap.get? b=some o→o.cls≠.type "list"→o.cls≠.none→H b=none:=fun {b o} e n1 n2=>by
   cases q:H b with
   | none=>rfl
   | some u=>
    rcases hA b (by rw [q]; simp) with z | z
    ·rw [z,ha] at e; cases e; exact absurd rfl n1
    ·rw [z,hT] at e; cases e; exact absurd rfl n2
  have noD:∀ {b:Addr} {o:Obj} {es:Array DictEntry} {ep:Nat},s₁.heap.get? b=some o→o.data=.dict es ep→H b=none:=fun {b o es ep} e d=>by
   cases q:H b with
   | none=>rfl
   | some u=>
    rcases hA b (by rw [q]; simp) with z | z
    ·rw [z,ha] at e; cases e; cases d
    ·rw [z,hT] at e; cases e; cases d
  have nsK:∀ {b:Addr} {m:Str→Option Value},s₁.heap.Ns b m→(kQ s₁.heap H).Ns b m:=fun {b m} ⟨o,es,ep,e,d,r⟩=>⟨o,es,ep,jn e (noD e d),d,r⟩
  have hKb:K.In (kQ s₁.heap H):=fun b o e=>jn (KX b o e) (by
   cases q:H b with
   | none=>rfl
   | some u=>
    rcases hA b (by rw [q]; simp) with z | z
    ·rw [z] at e; rw [(hK (by rw [← z,q]; simp)).1] at e; cases e
    ·rw [z,KT] at e; cases e)
  have hM:Mod K mg (kQ s₁.heap H):=⟨hKb,nsK hns,⟨mb,nsK hb,hbb⟩,let ⟨mc,h1,h2⟩:=hlim; ⟨mc,nsK h1,h2⟩,let ⟨mm,h1⟩:=hsys; ⟨mm,nsK h1⟩⟩
  have e0:gS P w K mg (kQ s₁.heap H) callerA [] s₁ H:=⟨rfl,hM,fun b o e=>uY e,Nat.le_of_eq (qw _ _),trivial,fun b hb=>absurd (show b∈([]:List Addr) from hb) (by simp),hok,.of_eq hg⟩
  have hBA:(kQ s₁.heap H).BuiltinsAt mg T:=by
   obtain⟨bm,ob,b1,b2,b3,b4,b5,b6⟩:=hbm
   refine⟨bm,ob,b1,b2,fun z=>?_,fun z=>?_,jn b3 (no b3 (by rw [b4]; simp) (by rw [b4]; simp)),b4,b5,b6⟩
   ·obtain⟨o,es,ep,e,d,_⟩:=hns
    rw [z,e] at b3; cases b3; rw [d] at b6; cases b6
   ·rw [z,hT] at b3; cases b3; cases b4
  refine codeAny_mono ((F _ hKb (nsK hns) hBA).run callerA [] s₁ H ⟨[.ref a],[]⟩ [.ref a] [.ref a] _ _ hr e0 (hbind s₁ (.ref a)) (.cons rfl .nil) (hsp H hHT hS)) fun r s' h=>?_
  cases r with
  | error e=>exact(hCX H e s' h).elim
  | ok fl=>
   cases fl with
   | next=>exact False.elim h
   | brk=>exact False.elim h
   | cont=>exact False.elim h
   | ret u=>
    obtain⟨v,H',os,bare,un,hok',r',q⟩:=h
    have q':v=.bl true:=q
    subst q'
    obtain rfl:u=Value.bool true:=r'
    have keep:∀ b o,b≠T→s₁.heap.get? b=some o→s'.heap.get? b=some o:=fun b o n e=>by
     cases q:H b with
     | none=>exact un.keep b o e q (fun z=>absurd (show b∈([]:List Addr) from z) (by simp)) (by simp)
     | some u=>
      rcases hA b (by rw [q]; simp) with z | z
      ·obtain⟨_,z1⟩:=hK (by rw [← z,q]; simp)
       rw [z,ha] at e
       cases e
       rw [z]
       exact(hok' a _ (un.frzs a _ _ z1)).1
      ·exact absurd z n
    obtain⟨more,hm⟩:=un.tbls T _ hHT
    have hT':s'.heap.get? T=some {cls:=.none,data:=.fields (#[]++more)}:=hok' T _ hm
    refine⟨rfl,⟨fun b o e=>?_,fun b o e=>?_⟩,os,bare⟩
    ·by_cases z:b=T
     ·subst z
      rw [hT] at e
      cases e
      exact .inr (.inl ⟨hct,rfl,#[],more,rfl,hT'⟩)
     ·exact .inl (keep b o z e)
    ·by_cases z:b=T
     ·rw [z]; exact⟨_,hT'⟩
     ·exact⟨o,keep b o z e⟩
 cases hk:K.lookup a with
 | some o=>
  have e:=KX a o hk
  rw [ha] at e
  cases e
  refine core (fun b=>if b=T then some (.tbl #[]) else none) (if_pos rfl) (.inr ⟨_,vs.toArray,_,hk,rfl,rfl,rfl,by rw [List.size_toArray,lenV]; exact hl,by simpa using rv⟩) (fun b u z=>?_) (fun b z=>?_) fun z=>absurd (if_neg aT) z
  ·by_cases hb:b=T
   ·have z':=(if_pos hb).symm.trans z
    cases z'
    rw [hb]; exact hT
   ·have z':=(if_neg hb).symm.trans z
    cases z'
  ·by_cases hb:b=T
   ·exact .inr hb
   ·exact absurd (if_neg hb) z
 | none=>
  have H0:∀ b,(fun b=>if b=T then some (HO.tbl #[]) else if b=a then some (HO.frz {cls:=.type "list",data:=.seq vs.toArray} (.lst (ns.map V.int))) else none:Hp) b=if b=T then some (HO.tbl #[]) else if b=a then some (HO.frz {cls:=.type "list",data:=.seq vs.toArray} (.lst (ns.map V.int))) else none:=fun _=>rfl
  refine core (fun b=>if b=T then some (HO.tbl #[]) else if b=a then some (HO.frz {cls:=.type "list",data:=.seq vs.toArray} (.lst (ns.map V.int))) else none) (if_pos rfl) (.inl (.inr ⟨{cls:=.type "list",data:=.seq vs.toArray},(if_neg aT).trans (if_pos rfl)⟩)) (fun b u z=>?_) (fun b z=>?_) fun _=>⟨hk,(if_neg aT).trans (if_pos rfl)⟩
  ·by_cases hb:b=T
   ·have z':=(if_pos hb).symm.trans z
    cases z'
    rw [hb]; exact hT
   ·have z1:=(if_neg hb).symm.trans z
    by_cases hb2:b=a
    ·have z':=(if_pos hb2).symm.trans z1
     cases z'
     subst hb2
     exact⟨ha,by rw [List.length_map]; exact hl,vs,_,rv,ha⟩
    ·have z':=(if_neg hb2).symm.trans z1
     cases z'
  ·by_cases hb:b=T
   ·exact .inr hb
   ·by_cases hb2:b=a
    ·exact .inl hb2
    ·exact absurd ((if_neg hb).trans (if_neg hb2)) z
end L2
noncomputable section
namespace Srt
open PySem PyProof.Rows
structure Pt where
 a:List Nat
 q:List (Nat×Nat×Nat)
 g:Nat
abbrev PM:=StateT Pt Option
def drR (l:List Nat):Nat→List Nat:=@List.rec Nat (fun _=>Nat→List Nat) (fun _=>[]) (fun x xs ih n=>@Nat.rec (fun _=>List Nat) (x::xs) (fun k _=>ih k) n) l
def tkR (l:List Nat):Nat→List Nat:=@List.rec Nat (fun _=>Nat→List Nat) (fun _=>[]) (fun x xs ih n=>@Nat.rec (fun _=>List Nat) [] (fun k _=>x::ih k) n) l
def apR (l r:List Nat):List Nat:=@List.rec Nat (fun _=>List Nat) r (fun x _ ih=>x::ih) l
def ge (l:List Nat):Nat→Option Nat:=@List.rec Nat (fun _=>Nat→Option Nat) (fun _=>none) (fun x xs ih n=>@Nat.rec (fun _=>Option Nat) (some x) (fun k _=>ih k) n) l
def cK (K:List Nat) (x y:Nat):Bool:=match ge K x,ge K y with
 | some a,some b=>a.blt b
 | _,_=>false
section
variable (ok:Nat×List Nat)
def nO (x y:Nat):PM Bool:=fun s=>bif x.blt ok.1&&y.blt ok.1 then some (cK ok.2 x y,s) else none
def pEl (v:List Nat) (i:Nat):PM Nat:=fun s=>match ge v i with
 | some x=>some (x,s)
 | none=>none
def pLt (i j:Nat):PM Bool:=do
 let s ← get
 let x ← pEl s.a i
 let y ← pEl s.a j
 nO ok x y
def frc {β:Type} (l:List Nat):(List Nat→β)→β:=@List.rec Nat (fun _=>(List Nat→β)→β) (fun k=>k []) (fun x _ ih k=>ih fun y=>k (x::y)) l
def sta (l:List Nat):PM Unit:=fun s=>frc l fun l=>some ((),{s with a:=l})
def rv (i j:Nat):PM Unit:=do
 let s ← get
 if i≤j&&j≤s.a.length then sta (s.a.take i++(((s.a.drop i).take (j-i)).reverse++s.a.drop j)) else fun _=>none
def mv (i j:Nat):PM Unit:=do
 let s ← get
 match ge s.a i with
 | some x=>if j≤i then sta (apR (tkR s.a j) (x::(apR (tkR (drR s.a j) (i-j)) (drR s.a (i+1))))) else fun _=>none
 | none=>fun _=>none
def lp {β:Type} (f:Nat→β→PM (ForInStep β)) (n:Nat):Nat→β→PM β:=
 @Nat.rec (fun _=>Nat→β→PM β) (fun _ b=>pure b) (fun _ ih i b=>do match ← f i b with
  | .done b=>pure b
  | .yield b=>ih (i+1) b) n
def yf (lo:Nat) (_ n:Nat):PM (ForInStep Nat):=do
 if ← pLt ok (lo+n) (lo+n-1) then pure (.done n) else pure (.yield (n+1))
def pDs (lo:Nat) (_:Nat) (b:Nat×Nat):PM (ForInStep (Nat×Nat)):=do
 if ← pLt ok (lo+b.1) (lo+b.1-1) then
  if b.2 > 0 then do
   rv (lo+b.1 - (b.2+1)) (lo+b.1)
   pure (.yield (b.1+1,0))
  else pure (.yield (b.1+1,0))
 else do
  if ← pLt ok (lo+b.1-1) (lo+b.1) then pure (.done b) else pure (.yield (b.1+1,b.2+1))
def pT3 (lo r n:Nat):PM Nat:=do
 rv lo (lo+n)
 let m ← lp (yf ok lo) (r-n) n n
 pure m
def rR (lo r n:Nat):PM Nat:=do
 let b ← lp (pDs ok lo) (r - (n+1)) (n+1) (n+1,0)
 if b.2 > 0 then do
  rv (lo+b.1 - (b.2+1)) (lo+b.1)
  pT3 ok lo r b.1
 else pT3 ok lo r b.1
def nN (lo r:Nat):PM Nat:=do
 let n ← lp (yf ok lo) (r-1) 1 1
 if n==r then pure n
 else if n > 1 then do
  if ← pLt ok lo (lo+n-1) then pure n
  else do
   rv lo (lo+n)
   rR ok lo r n
 else rR ok lo r n
def pPl (lo k:Nat) (_:Nat) (b:Nat×Nat):PM (ForInStep (Nat×Nat)):=
 if b.1≥b.2 then pure (.done b) else do
  if ← pLt ok (lo+k) (lo+(b.1+b.2) / 2) then pure (.yield (b.1,(b.1+b.2) / 2)) else pure (.yield ((b.1+b.2) / 2+1,b.2))
def wK (lo n k:Nat):PM Unit:=lp (fun k _=>do
 let b ← lp (pPl ok lo k) k 0 (0,k)
 mv (lo+k) (lo+b.1)
 pure (.yield ())) (n-max k 1) (max k 1) ()
def pBy (l:Bool) (x:Nat) (v:List Nat) (b i:Nat):PM Bool:=do
 let y ← pEl v (b+i)
 if l then nO ok y x else do
  let z ← nO ok x y
  pure (!z)
def pGal (l:Bool) (x:Nat) (v:List Nat) (b n h:Nat):PM Nat:=do
 let r ← pBy ok l x v b h
 if r then do
  let u ← lp (fun _ (u:Nat×Nat)=>if u.2≥n-h then pure (.done u) else do
   let m ← pBy ok l x v b (h+u.2)
   if !m then pure (.done u) else pure (.yield (u.2,2*u.2+1))) n 0 (0,1)
  pG2 (h+u.1+1) (h+min u.2 (n-h))
 else do
  let u ← lp (fun _ (u:Nat×Nat)=>if u.2≥h+1 then pure (.done u) else do
   let m ← pBy ok l x v b (h-u.2)
   if m then pure (.done u) else pure (.yield (u.2,2*u.2+1))) n 0 (0,1)
  pG2 (h+1-min u.2 (h+1)) (h-u.1)
where pG2 (lo hi:Nat):PM Nat:=do
 let u ← lp (fun _ (u:Nat×Nat)=>if u.1≥u.2 then pure (.done u) else do
  let m ← pBy ok l x v b (u.1+(u.2-u.1) / 2)
  if m then pure (.yield (u.1+(u.2-u.1) / 2+1,u.2)) else pure (.yield (u.1,u.1+(u.2-u.1) / 2))) n 0 (lo,hi)
 pure u.2
abbrev B5:=Option (List Nat)×List Nat×Nat×Nat×Nat×Nat
abbrev B6:=Option (List Nat)×List Nat×Nat×Nat×Nat×Nat×Nat
abbrev B4:=Option (List Nat)×List Nat×Nat×Nat×Nat
def sg (k:Nat):PM Unit:=modify fun s=>{s with g:=k}
def dn (v w o:List Nat) (i j:Nat):List Nat:=o++v.drop i++w.drop j
def l1 (v w:List Nat) (g:Nat) (_:Nat):B5→PM (ForInStep B5):=fun (_,o,i,j,a,b)=>do
 let y ← pEl w j
 let x ← pEl v i
 if ← nO ok y x then do
  let y ← pEl w j
  if j+1==w.length then pure (.done (some (dn v w (o++[y]) i (j+1)),o++[y],i,j+1,0,b+1))
  else if b+1≥g then pure (.done (none,o++[y],i,j+1,0,b+1))
  else pure (.yield (none,o++[y],i,j+1,0,b+1))
 else do
  let x ← pEl v i
  if i+1+1==v.length then pure (.done (some (dn w v (o++[x]) j (i+1)),o++[x],i+1,j,a+1,0))
  else if a+1≥g then pure (.done (none,o++[x],i+1,j,a+1,0))
  else pure (.yield (none,o++[x],i+1,j,a+1,0))
def l2c (v w:List Nat) (g a b:Nat) (o:List Nat) (i j:Nat):PM (ForInStep B6):=do
 let x ← pEl v i
 if i+1+1==v.length then pure (.done (some (dn w v (o++[x]) j (i+1)),o++[x],i+1,j,g,a,b))
 else if a<7&&b<7 then pure (.done (none,o++[x],i+1,j,g,a,b))
 else pure (.yield (none,o++[x],i+1,j,g,a,b))
def l2b (v w:List Nat) (g a b:Nat) (o:List Nat) (i j:Nat):PM (ForInStep B6):=do
 let y ← pEl w j
 if j+1==w.length then pure (.done (some (dn v w (o++[y]) i (j+1)),o++[y],i,j+1,g,a,b))
 else do
  let x ← pEl v i
  let k ← pGal ok true x w (j+1) (w.length - (j+1)) 0
  if k > 0 then
   if j+1+k==w.length then pure (.done (some (dn v w (o++[y]++(w.drop ((j+1))).take ((j+1+k) - ((j+1)))) i (j+1+k)),o++[y]++(w.drop ((j+1))).take ((j+1+k) - ((j+1))),i,j+1+k,g,a,k))
   else l2c v w g a k (o++[y]++(w.drop ((j+1))).take ((j+1+k) - ((j+1)))) i (j+1+k)
  else l2c v w g a k (o++[y]) i (j+1)
def l2a (v w:List Nat) (g b:Nat) (o:List Nat) (i j:Nat):PM (ForInStep B6):=do
 sg g
 let y ← pEl w j
 let k ← pGal ok false y v i (v.length-i) 0
 if k > 0 then
  if i+k+1==v.length then pure (.done (some (dn w v (o++(v.drop (i)).take ((i+k) - (i))) j (i+k)),o++(v.drop (i)).take ((i+k) - (i)),i+k,j,g,k,b))
  else if i+k==v.length then pure (.done (some (dn v w (o++(v.drop (i)).take ((i+k) - (i))) (i+k) j),o++(v.drop (i)).take ((i+k) - (i)),i+k,j,g,k,b))
  else l2b ok v w g k b (o++(v.drop (i)).take ((i+k) - (i))) (i+k) j
 else l2b ok v w g k b o i j
def l2 (v w:List Nat) (_:Nat):B6→PM (ForInStep B6):=fun (_,o,i,j,g,_,b)=>
 if g > 1 then l2a ok v w (g-1) b o i j else l2a ok v w g b o i j
def l0 (v w:List Nat) (_:Nat):B4→PM (ForInStep B4):=fun (_,o,i,j,g)=>do
 let (r,o,i,j,a,b) ← lp (l1 ok v w g) (v.length+w.length) 0 (none,o,i,j,0,0)
 match r with
 | some r=>pure (.done (some r,o,i,j,g))
 | none=>do
  let (r,o,i,j,g,_,_) ← lp (l2 ok v w) (v.length+w.length) 0 (none,o,i,j,g+1,a,b)
  match r with
  | some r=>pure (.done (some r,o,i,j,g))
  | none=>do
   sg (g+1)
   pure (.yield (none,o,i,j,g+1))
def pLo (v w:List Nat):PM (List Nat):=do
 let y ← pEl w 0
 if 1==w.length then pure (dn v w [y] 0 1)
 else if 0+1==v.length then pure (dn w v [y] 1 0)
 else do
  let s ← get
  let (r,_) ← lp (l0 ok v w) (v.length+w.length) 0 (none,[y],0,1,s.g)
  match r with
  | some r=>pure r
  | none=>fun _=>none
abbrev C5:=Option (List Nat)×Nat×Nat×List Nat×Nat×Nat
abbrev C6:=Option (List Nat)×Nat×Nat×List Nat×Nat×Nat×Nat
abbrev C4:=Option (List Nat)×Nat×Nat×List Nat×Nat
def dh (v w o:List Nat) (i j:Nat):List Nat:=v.take i++w.take j++o.reverse
def h1 (v w:List Nat) (g:Nat) (_:Nat):C5→PM (ForInStep C5):=fun (_,i,j,o,a,b)=>do
 let y ← pEl w (j-1)
 let x ← pEl v (i-1)
 if ← nO ok y x then do
  let x ← pEl v (i-1)
  if i-1==0 then pure (.done (some (dh v w (o++[x]) (i-1) j),i-1,j,o++[x],a+1,0))
  else if a+1≥g then pure (.done (none,i-1,j,o++[x],a+1,0))
  else pure (.yield (none,i-1,j,o++[x],a+1,0))
 else do
  let y ← pEl w (j-1)
  if j-1==1 then pure (.done (some (dh w v (o++[y]) (j-1) i),i,j-1,o++[y],0,b+1))
  else if b+1≥g then pure (.done (none,i,j-1,o++[y],0,b+1))
  else pure (.yield (none,i,j-1,o++[y],0,b+1))
def h2c (v w:List Nat) (g a b i j:Nat) (o:List Nat):PM (ForInStep C6):=do
 let x ← pEl v (i-1)
 if i-1==0 then pure (.done (some (dh v w (o++[x]) (i-1) j),i-1,j,o++[x],g,a,b))
 else if a<7&&b<7 then pure (.done (none,i-1,j,o++[x],g,a,b))
 else pure (.yield (none,i-1,j,o++[x],g,a,b))
def h2b (v w:List Nat) (g a b i j:Nat) (o:List Nat):PM (ForInStep C6):=do
 let y ← pEl w (j-1)
 if j-1==1 then pure (.done (some (dh w v (o++[y]) (j-1) i),i,j-1,o++[y],g,a,b))
 else do
  let x ← pEl v (i-1)
  let k ← pGal ok true x w 0 (j-1) (j-1-1)
  if j-1-k > 0 then
   if k==1 then pure (.done (some (dh w v (o++[y]++((w.drop (k)).take ((j-1) - (k))).reverse) k i),i,k,o++[y]++((w.drop (k)).take ((j-1) - (k))).reverse,g,a,j-1-k))
   else if k==0 then pure (.done (some (dh v w (o++[y]++((w.drop (k)).take ((j-1) - (k))).reverse) i k),i,k,o++[y]++((w.drop (k)).take ((j-1) - (k))).reverse,g,a,j-1-k))
   else h2c v w g a (j-1-k) i k (o++[y]++((w.drop (k)).take ((j-1) - (k))).reverse)
  else h2c v w g a (j-1-k) i (j-1) (o++[y])
def h2a (v w:List Nat) (g b i j:Nat) (o:List Nat):PM (ForInStep C6):=do
 sg g
 let y ← pEl w (j-1)
 let k ← pGal ok false y v 0 i (i-1)
 if i-k > 0 then
  if k==0 then pure (.done (some (dh v w (o++((v.drop (k)).take (i - (k))).reverse) k j),k,j,o++((v.drop (k)).take (i - (k))).reverse,g,i-k,b))
  else h2b ok v w g (i-k) b k j (o++((v.drop (k)).take (i - (k))).reverse)
 else h2b ok v w g (i-k) b i j o
def h2 (v w:List Nat) (_:Nat):C6→PM (ForInStep C6):=fun (_,i,j,o,g,_,b)=>
 if g > 1 then h2a ok v w (g-1) b i j o else h2a ok v w g b i j o
def h0 (v w:List Nat) (_:Nat):C4→PM (ForInStep C4):=fun (_,i,j,o,g)=>do
 let (r,i,j,o,a,b) ← lp (h1 ok v w g) (v.length+w.length) 0 (none,i,j,o,0,0)
 match r with
 | some r=>pure (.done (some r,i,j,o,g))
 | none=>do
  let (r,i,j,o,g,_,_) ← lp (h2 ok v w) (v.length+w.length) 0 (none,i,j,o,g+1,a,b)
  match r with
  | some r=>pure (.done (some r,i,j,o,g))
  | none=>do
   sg (g+1)
   pure (.yield (none,i,j,o,g+1))
def pHi (v w:List Nat):PM (List Nat):=do
 let x ← pEl v (v.length-1)
 if v.length-1==0 then pure (dh v w [x] (v.length-1) w.length)
 else if w.length==1 then pure (dh w v [x] w.length (v.length-1))
 else do
  let s ← get
  let (r,_) ← lp (h0 ok v w) (v.length+w.length) 0 (none,v.length-1,w.length,[x],s.g)
  match r with
  | some r=>pure r
  | none=>fun _=>none
def wb (k:Nat) (m:List Nat):PM Unit:=do
 let s ← get
 if k+m.length≤s.a.length then sta (s.a.take k++(m++s.a.drop (k+m.length))) else fun _=>none
def pMg (i:Nat):PM Unit:=do
 let s ← get
 match s.q[i]?,s.q[i+1]? with
 | some (sa,na,pw),some (sb,nb,_)=>do
  set {s with q:=(s.q.set i (sa,na+nb,pw)).eraseIdx (i+1)}
  let y ← pEl s.a sb
  let k ← pGal ok false y s.a sa na 0
  if na-k==0 then pure ()
  else do
   let x ← pEl s.a (sa+k+(na-k) - 1)
   let m ← pGal ok true x s.a sb nb (nb-1)
   if m==0 then pure ()
   else if na-k≤m then do
    let r ← pLo ok ((s.a.drop ((sa+k))).take (sb - ((sa+k)))) ((s.a.drop (sb)).take ((sb+m) - (sb)))
    wb (sa+k) r
   else do
    let r ← pHi ok ((s.a.drop ((sa+k))).take (sb - ((sa+k)))) ((s.a.drop (sb)).take ((sb+m) - (sb)))
    wb (sa+k) r
 | _,_=>fun _=>none
def ye (pw:Nat) (_:Nat) (_:Unit):PM (ForInStep Unit):=do
 let s ← get
 match (if s.q.length > 1 then s.q[s.q.length-2]? else none) with
 | some (_,_,o)=>if o≤pw then pure (.done ()) else do
  pMg ok (s.q.length-2)
  pure (.yield ())
 | none=>pure (.done ())
def wJ (lo n:Nat):PM (ForInStep Nat):=do
 modify fun s=>{s with q:=s.q++[(lo,n,0)]}
 pure (.yield (lo+n))
def wI (z lo n:Nat):PM (ForInStep Nat):=do
 let s ← get
 match s.q.getLast? with
 | some (s1,n1,_)=>do
  lp (ye ok (power' z (2*s1+n1) (2*s1+n1+n1+n) z)) z 0 ()
  modify fun s=>{s with q:=s.q.modify (s.q.length-1) fun p=>(p.1,p.2.1,power' z (2*s1+n1) (2*s1+n1+n1+n) z)}
  wJ lo n
 | none=>wJ lo n
def yc (z mr:Nat) (_:Nat) (lo:Nat):PM (ForInStep Nat):=
 if lo≥z then pure (.done lo) else do
  let n ← nN ok lo (z-lo)
  if n<mr then do
   wK ok lo (min (z-lo) mr) n
   wI ok z lo (min (z-lo) mr)
  else wI ok z lo n
def yd (_:Nat) (_:Unit):PM (ForInStep Unit):=do
 let s ← get
 if s.q.length≤1 then pure (.done ())
 else do
  pMg ok (if (if s.q.length-2 > 0 then s.q[s.q.length-2-1]?.map (·.2.1) else none).any (· < (s.q[s.q.length-2+1]?.elim 0 (·.2.1))) then s.q.length-2-1 else s.q.length-2)
  pure (.yield ())
def rQ:PM Unit:=do
 let s ← get
 let _ ← lp (yc ok s.a.length (minRun' s.a.length s.a.length 0)) s.a.length 0 0
 lp (yd ok) s.a.length 0 ()
end
section
variable (prog:Program) (w:World) (A:Around) (E:Value→Shared→Prop) (s:Shared) (κ:SortKind) (it:Nat→Keyed) (ok:Nat×List Nat)
def img (l:List Nat):Array Keyed:=(l.map it).toArray
def im (p:Pt):SortSt:=SortSt.mk' κ (img it p.a) p.q.toArray p.g none
def Sm {α β:Type} (f:α→β) (m:StateT SortSt Sem β) (p:PM α):Prop:=
 ∀ st a st',p st=some (a,st')→∀ Q:β→SortSt→Prop,Q (f a) (im κ it st')→wpS (model prog w) A E s m Q (im κ it st)
def Cmp:Prop:=∀ x y,x<ok.1→y<ok.1→wpAny (model prog w) A (keyLt' κ (it x).1 (it y).1) (fun b s'=>s'=s∧b=cK ok.2 x y) (fun _ _=>False) s
end
section
variable {prog:Program} {w:World} {A:Around} {E:Value→Shared→Prop} {s:Shared} {κ:SortKind} {it:Nat→Keyed} {ok:Nat×List Nat}
theorem ar {α β:Type} {f:α→β} {a:α} {b:β} (h:b=f a):Sm prog w A E s κ it f (pure b) (pure a):=by
 intro st c st' e Q hQ
 cases e; subst h
 exact wpS_pure hQ
theorem aj {α β γ δ:Type} {f:α→β} {g:γ→δ} {m:StateT SortSt Sem β} {k:β→StateT SortSt Sem δ} {p:PM α} {q:α→PM γ}
  (h1:Sm prog w A E s κ it f m p) (h2:∀ a,Sm prog w A E s κ it g (k (f a)) (q a)):Sm prog w A E s κ it g (m>>=k) (p>>=q):=by
 intro st c st' e Q hQ
 have e':(p st).bind (fun r=>q r.1 r.2)=some (c,st'):=e
 cases hp:p st with
 | none=>rw [hp] at e'; cases e'
 | some r=>
  rw [hp] at e'
  exact wpS_bind (h1 st r.1 r.2 hp _ (h2 r.1 r.2 c st' e' Q hQ))
theorem ee {α β δ:Type} {f:α→β} {g:α→δ} {m:StateT SortSt Sem β} {k:β→StateT SortSt Sem δ} {p:PM α}
  (h1:Sm prog w A E s κ it f m p) (h2:∀ a,Sm prog w A E s κ it g (k (f a)) (pure a)):Sm prog w A E s κ it g (m>>=k) p:=by
 have h:=aj h1 h2
 rw [show (p>>=fun a=>pure a)=p from bind_pure p] at h
 exact h
theorem uA {α β δ:Type} {g:α→δ} {m:StateT SortSt Sem β} {k:β→StateT SortSt Sem δ} {p:PM α} {b:β}
  (h1:∀ st (Q:β→SortSt→Prop),Q b st→wpS (model prog w) A E s m Q st) (h2:Sm prog w A E s κ it g (k b) p):Sm prog w A E s κ it g (m>>=k) p:=by
 intro st c st' e Q hQ
 exact wpS_bind (h1 _ _ (h2 st c st' e Q hQ))
theorem eJ {α δ:Type} {g:α→δ} {x:String} {k:Unit→StateT SortSt Sem δ} {p:PM α} (h2:Sm prog w A E s κ it g (k ()) p):Sm prog w A E s κ it g ((liftM (rule x):StateT SortSt Sem Unit)>>=k) p:=
 uA (b:=()) (fun st Q h=>wpS_lift (wpAny_rule ⟨rfl,h⟩)) h2
theorem fj:Sm prog w A E s κ it (im κ it) (get:StateT SortSt Sem SortSt) (get:PM Pt):=by
 intro st c st' e Q hQ
 cases e
 exact wpS_get hQ
theorem wx {x:SortSt} {y:Pt} (h:x=im κ it y):Sm prog w A E s κ it (fun a=>a) (set x:StateT SortSt Sem PUnit) (set y:PM PUnit):=by
 intro st c st' e Q hQ
 cases e
 subst h
 show wpAny _ _ ((set (im κ it y):StateT SortSt Sem PUnit).run _) _ _ _
 rw [StateT.run_set]
 exact wpAny_pure ⟨rfl,hQ⟩
theorem ko {h:SortSt→SortSt} {h':Pt→Pt} (e:∀ st,h (im κ it st)=im κ it (h' st)):Sm prog w A E s κ it (fun a=>a) (modify h:StateT SortSt Sem PUnit) (modify h':PM PUnit):=by
 intro st c st' e' Q hQ
 cases e'
 refine wpS_modify ?_
 rw [e]; exact hQ
theorem aw {α β:Type} {f:α→β} {c c':Prop} [Decidable c] [Decidable c'] {m n:StateT SortSt Sem β} {p q:PM α} (h:c↔c') (h1:Sm prog w A E s κ it f m p) (h2:Sm prog w A E s κ it f n q) :
  Sm prog w A E s κ it f (if c then m else n) (if c' then p else q):=by
 by_cases hc:c
 ·rw [if_pos hc,if_pos (h.mp hc)]; exact h1
 ·rw [if_neg hc,if_neg (fun x=>hc (h.mpr x))]; exact h2
theorem iL {α β:Type} {f:α→β} {m:StateT SortSt Sem β}:Sm prog w A E s κ it f m (fun _=>none):=by
 intro st c st' e; cases e
theorem eM (l:List Nat) (i:Nat):(img it l)[i]? = (l[i]?).map it:=by simp [img]
theorem aH (l:List Nat):(img it l).size=l.length:=by simp [img]
theorem my:∀ (l:List Nat) (i:Nat),ge l i=l[i]?
 | [],_=>rfl
 | _::_,0=>rfl
 | _::l,i+1=>my l i
theorem tS:∀ (l:List Nat) (i:Nat),drR l i=l.drop i
 | [],_=>by simp [drR]
 | _::_,0=>rfl
 | _::l,i+1=>tS l i
theorem qZ:∀ (l:List Nat) (i:Nat),tkR l i=l.take i
 | [],_=>by simp [tkR]
 | _::_,0=>rfl
 | x::l,i+1=>congrArg (x :: ·) (qZ l i)
theorem ua:∀ l r:List Nat,apR l r=l++r
 | [],_=>rfl
 | x::l,r=>congrArg (x :: ·) (ua l r)
theorem cz (v:List Nat) (i:Nat):Sm prog w A E s κ it it (elem' (img it v) i) (pEl v i):=by
 intro st c st' e Q hQ
 rw [elem'_eq,eM]
 unfold pEl at e
 rw [my] at e
 cases h:v[i]? with
 | none=>rw [h] at e; cases e
 | some x=>
  rw [h] at e; cases e
  exact wpS_pure hQ
theorem iY (hc:Cmp prog w A s κ it ok) (x y:Nat):Sm prog w A E s κ it some (lt' (it x) (it y)) (nO ok x y):=by
 intro st c st' e Q hQ
 unfold nO at e
 cases h:(x.blt ok.1&&y.blt ok.1) with
 | true=>
  rw [h] at e; cases e
  simp only [Bool.and_eq_true,Nat.blt_eq] at h
  rw [lt'_eq]
  refine wpS_bind (wpS_get ?_)
  refine wpS_bind (wpS_lift (wpAny_attempt (wpAny_mono (hc x y h.1 h.2) (fun b s' hb=>?_) fun _ _ hF=>hF.elim)))
  obtain⟨rfl,rfl⟩:=hb
  exact⟨rfl,wpS_pure hQ⟩
 | false=>rw [h] at e; cases e
theorem gv (hc:Cmp prog w A s κ it ok) (i j:Nat):Sm prog w A E s κ it some (ltAt' i j) (pLt ok i j):=by
 rw [ltAt'_eq]
 exact aj fj fun st=>aj (cz st.a i) fun x=>aj (cz st.a j) fun y=>iY hc x y
def stF {α β:Type} (F:α→β):ForInStep α→ForInStep β
 | .done b=>.done (F b)
 | .yield b=>.yield (F b)
theorem o7 {α β:Type} {F:α→β} {f:Nat→α→PM (ForInStep α)} {body:Nat→β→StateT SortSt Sem (ForInStep β)} (h:∀ x c,Sm prog w A E s κ it (stF F) (body x (F c)) (f x c)) :
  ∀ (n i:Nat) (c:α),Sm prog w A E s κ it F (forIn (List.range' i n) (F c) body) (lp f n i c)
 | 0,i,c=>by
  rw [show List.range' i 0=[] from rfl,List.forIn_nil]
  exact ar rfl
 | n+1,i,c=>by
  rw [List.range'_succ,List.forIn_cons]
  refine aj (q:=fun r=>match r with
   | .done b=>pure b
   | .yield b=>lp f n (i+1) b) (h i c) fun r=>?_
  cases r with
  | done b=>exact ar rfl
  | yield b=>exact o7 h n (i+1) b
theorem bQ {α β:Type} {F:α→β} {f:Nat→α→PM (ForInStep α)} {body:Nat→β→StateT SortSt Sem (ForInStep β)} {a b n:Nat} {c:α} {d:β} (hd:d=F c) (hn:b-a=n) (h:∀ x c,Sm prog w A E s κ it (stF F) (body x (F c)) (f x c)) :
  Sm prog w A E s κ it F (forIn [a:b] d body) (lp f n a c):=by
 subst hd hn
 rw [Std.Legacy.Range.forIn_eq_forIn_range']
 have hsz:([a:b]:Std.Legacy.Range).size=b-a:=by simp [Std.Legacy.Range.size]
 show Sm prog w A E s κ it F (forIn (List.range' a ([a:b]:Std.Legacy.Range).size 1) _ body) _
 rw [hsz]
 exact o7 h _ _ _
theorem tI {β:Type}:∀ (l:List Nat) (k:List Nat→β),frc l k=k l
 | [],k=>rfl
 | x::l,k=>tI l fun y=>k (x::y)
theorem ng (l:List Nat) (st:Pt):sta l st=some ((),{st with a:=l}):=tI _ _
theorem kO {l:List Nat} {a:Array Keyed} (h:∀ k:Nat,a[k]? = (l[k]?).map it):a=img it l:=by
 apply Array.ext_getElem?
 intro k; rw [h,eM]
theorem gu (i j:Nat):Sm prog w A E s κ it (fun a=>a) (reverseSlice' i j) (rv i j):=by
 intro st c st' e Q hQ
 rw [reverseSlice'_eq]
 refine wpS_modify ?_
 have e':(if (decide (i≤j)&&decide (j≤st.a.length))=true then sta (st.a.take i++(((st.a.drop i).take (j-i)).reverse++st.a.drop j)) else fun _=>none) st=some (c,st'):=e
 by_cases h:(decide (i≤j)&&decide (j≤st.a.length))=true
 ·rw [if_pos h,ng] at e'
  simp only [Bool.and_eq_true,decide_eq_true_eq] at h
  cases e'
  have : mirror (img it st.a) i j ((j-i) / 2)=img it (st.a.take i++(((st.a.drop i).take (j-i)).reverse++st.a.drop j)):=by
   refine kO fun k=>?_
   rw [getElem?_mirror_all (by rw [aH]; exact h.2),eM,eM,← apply_ite (Option.map it)]
   congr 1
   split
   ·rename_i hk
    rw [List.getElem?_append_right (by simp; omega),List.getElem?_append_left (by simp; omega)]
    rw [List.getElem?_reverse (by simp; omega),List.getElem?_take_of_lt (by simp; omega),List.getElem?_drop]
    congr 1; simp; omega
   ·rename_i hk
    by_cases hk':k<i
    ·rw [List.getElem?_append_left (by simp; omega),List.getElem?_take_of_lt hk']
    ·rw [List.getElem?_append_right (by simp; omega),List.getElem?_append_right (by simp; omega),List.getElem?_drop]
     congr 1; simp; omega
  show Q () (SortSt.mk' _ (mirror (img it st.a) i j ((j-i) / 2)) _ _ _)
  rw [this]
  exact hQ
 ·rw [if_neg h] at e'; cases e'
theorem xK (i j:Nat):Sm prog w A E s κ it (fun a=>a) (moveDown' i j) (mv i j):=by
 intro st c st' e Q hQ
 rw [moveDown'_eq]
 refine wpS_modify ?_
 have e':(match ge st.a i with
  | some x=>if j≤i then sta (apR (tkR st.a j) (x::(apR (tkR (drR st.a j) (i-j)) (drR st.a (i+1))))) else fun _=>none
  | none=>fun _=>none) st=some (c,st'):=e
 simp only [my,ua,qZ,tS] at e'
 cases hx:st.a[i]? with
 | none=>rw [hx] at e'; cases e'
 | some x=>
  rw [hx] at e'
  dsimp only at e'
  have hi:i<st.a.length:=(List.getElem?_eq_some_iff.mp hx).1
  by_cases h:j≤i
  ·rw [if_pos h,ng] at e'
   cases e'
   have : bubble (img it st.a) i (i-j)=img it (st.a.take j++x::((st.a.drop j).take (i-j)++st.a.drop (i+1))):=by
    refine kO fun k=>?_
    rw [getElem?_bubble (by rw [aH]; exact hi) _ (by omega),eM,eM,eM,show i - (i-j)=j by omega]
    rw [← apply_ite (Option.map it),← apply_ite (Option.map it)]
    congr 1
    by_cases h1:k=j
    ·rw [if_pos h1,List.getElem?_append_right (by simp; omega)]
     rw [show k - (List.take j st.a).length=0 by simp; omega,List.getElem?_cons_zero,hx]
    ·rw [if_neg h1]
     by_cases h2:k<j
     ·rw [if_neg (by omega),List.getElem?_append_left (by simp; omega),List.getElem?_take_of_lt h2]
     ·rw [List.getElem?_append_right (by simp; omega)]
      obtain⟨d,hd⟩:∃ d,k - (List.take j st.a).length=d+1:=⟨k-j-1,by simp; omega⟩
      rw [hd,List.getElem?_cons_succ]
      have hd':d=k-j-1:=by simp at hd; omega
      by_cases h3:k≤i
      ·rw [if_pos (by omega),List.getElem?_append_left (by simp; omega),List.getElem?_take_of_lt (by omega),List.getElem?_drop]
       congr 1; omega
      ·rw [if_neg (by omega),List.getElem?_append_right (by simp; omega),List.getElem?_drop]
       congr 1; simp; omega
   show Q () (SortSt.mk' _ (bubble (img it st.a) i (i-j)) _ _ _)
   rw [this]
   exact hQ
  ·rw [if_neg h] at e'; cases e'
end
section
variable {prog:Program} {w:World} {A:Around} {E:Value→Shared→Prop} {s:Shared} {κ:SortKind} {it:Nat→Keyed} {ok:Nat×List Nat}
abbrev fN {α β:Type} (a:α):Option β×α:=(none,a)
theorem rq (hc:Cmp prog w A s κ it ok) (lo r:Nat):Sm prog w A E s κ it some (countRun' lo r) (nN ok lo r):=by
 unfold nN rR pT3
 refine aj (f:=fN) (bQ rfl rfl fun x c=>?_) fun n=>aw Iff.rfl (ar rfl) (aw Iff.rfl ?_ ?_)
 ·exact aj (gv hc _ _) fun b=>aw Iff.rfl (ar rfl) (ar rfl)
 ·refine aj (gv hc _ _) fun b=>aw Iff.rfl (ar rfl) (aj (gu _ _) fun _=>eJ ?_)
  refine aj (f:=fN) (bQ rfl rfl fun x c=>?_) fun b=>aw Iff.rfl (aj (gu _ _) fun _=>aj (gu _ _) fun _=>ee (f:=fN) (bQ rfl rfl fun x c=>?_) fun _=>ar rfl) (aj (gu _ _) fun _=>ee (f:=fN) (bQ rfl rfl fun x c=>?_) fun _=>ar rfl)
  ·exact aj (gv hc _ _) fun b=>aw Iff.rfl (aw Iff.rfl (aj (gu _ _) fun _=>ar rfl) (ar rfl)) (aj (gv hc _ _) fun b=>aw Iff.rfl (ar rfl) (ar rfl))
  all_goals exact aj (gv hc _ _) fun b=>aw Iff.rfl (ar rfl) (ar rfl)
 ·refine eJ ?_
  refine aj (f:=fN) (bQ rfl rfl fun x c=>?_) fun b=>aw Iff.rfl (aj (gu _ _) fun _=>aj (gu _ _) fun _=>ee (f:=fN) (bQ rfl rfl fun x c=>?_) fun _=>ar rfl) (aj (gu _ _) fun _=>ee (f:=fN) (bQ rfl rfl fun x c=>?_) fun _=>ar rfl)
  ·exact aj (gv hc _ _) fun b=>aw Iff.rfl (aw Iff.rfl (aj (gu _ _) fun _=>ar rfl) (ar rfl)) (aj (gv hc _ _) fun b=>aw Iff.rfl (ar rfl) (ar rfl))
  all_goals exact aj (gv hc _ _) fun b=>aw Iff.rfl (ar rfl) (ar rfl)
theorem wB (hc:Cmp prog w A s κ it ok) (lo n k:Nat):Sm prog w A E s κ it (fun _=>true) (binarySort' lo n k) (wK ok lo n k):=by
 unfold wK
 refine ee (f:=fN) (bQ rfl rfl fun x c=>?_) fun n=>ar rfl
 refine aj (f:=fN) (bQ rfl rfl fun y d=>?_) fun b=>aj (xK _ _) fun _=>ar rfl
 exact aw Iff.rfl (ar rfl) (aj (gv hc _ _) fun b=>aw Iff.rfl (ar rfl) (ar rfl))
def yv:Bool→Keyed→Array Keyed→Nat→Nat→Nat→StateT SortSt Sem (Option Nat):=sortPriv% PySem.Builtin.gallop
theorem vR (hc:Cmp prog w A s κ it ok) (l:Bool) (x:Nat) (v:List Nat) (b i:Nat):Sm prog w A E s κ it some (do
  let y ← elem' (img it v) (b+i)
  if l=true then lt' y (it x) else do
   let z ← lt' (it x) y
   pure (Option.map (fun x=>!x) z)) (pBy ok l x v b i):=by
 unfold pBy
 refine aj (cz _ _) fun y=>aw Iff.rfl (iY hc _ _) (aj (iY hc _ _) fun z=>ar rfl)
theorem nq (hc:Cmp prog w A s κ it ok) (l:Bool) (x:Nat) (v:List Nat) (b n h:Nat):Sm prog w A E s κ it some (yv l (it x) (img it v) b n h) (pGal ok l x v b n h):=by
 unfold pGal pGal.pG2
 refine aj (vR hc l x v b h) fun r=>aw Iff.rfl (aj (f:=fN) (bQ rfl rfl fun y d=>?_) fun u=>aj (f:=fN) (bQ rfl rfl fun y d=>?_) fun b=>ar rfl)
  (aj (f:=fN) (bQ rfl rfl fun y d=>?_) fun u=>aj (f:=fN) (bQ rfl rfl fun y d=>?_) fun b=>ar rfl)
 all_goals exact aw Iff.rfl (ar rfl) (aj (vR hc l x v b _) fun b=>aw Iff.rfl (ar rfl) (ar rfl))
end
section
variable {prog:Program} {w:World} {A:Around} {E:Value→Shared→Prop} {s:Shared} {κ:SortKind} {it:Nat→Keyed} {ok:Nat×List Nat}
theorem iK (hc:Cmp prog w A s κ it ok) {l:Bool} {x:Nat} {v:List Nat} {b n m h k:Nat} (e:m=n) (e':k=h):Sm prog w A E s κ it some (yv l (it x) (img it v) b m k) (pGal ok l x v b n h):=by
 subst e e'; exact nq hc _ _ _ _ _ _
def sg':Nat→StateT SortSt Sem Unit:=sortPriv% PySem.Builtin.setMinGallop
def mLo:Array Keyed→Array Keyed→StateT SortSt Sem (Array Keyed):=sortPriv% PySem.Builtin.mergeLo
def mHi:Array Keyed→Array Keyed→StateT SortSt Sem (Array Keyed):=sortPriv% PySem.Builtin.mergeHi
theorem o6 (k:Nat):Sm prog w A E s κ it (fun a=>a) (sg' k) (sg k):=ko fun _=>rfl
theorem bZ (o:List Nat) (y:Nat):(img it o).push (it y)=img it (o++[y]):=by simp [img]
theorem bP (o u:List Nat):img it o++img it u=img it (o++u):=by simp [img]
theorem mq (o:List Nat) (i:Nat):(img it o).extract 0 i=img it (o.take i):=by simp [img]
theorem bL (o:List Nat) (i j:Nat):(img it o).extract i j=img it ((o.drop i).take (j-i)):=by
 simp only [img,List.extract_toArray,List.extract_eq_drop_take]
 simp
theorem mw (o:List Nat) (i:Nat):(img it o).extract i=img it (o.drop i):=by
 rw [bL,aH,List.take_of_length_le]; simp
theorem ef (o:List Nat):(img it o).reverse=img it o.reverse:=by simp [img]
theorem om (v w o:List Nat) (i j:Nat):img it o++(img it v).extract i++(img it w).extract j=img it (dn v w o i j):=by
 rw [mw,mw,bP,bP]; rfl
theorem on (v w o:List Nat) (i j:Nat):(img it v).extract 0 i++(img it w).extract 0 j++(img it o).reverse=img it (dh v w o i j):=by
 rw [mq,mq,ef,bP,bP]; rfl
def F4 (it:Nat→Keyed):B4→Option (Array Keyed)×Array Keyed×Nat×Nat×Nat:=fun (r,o,i)=>(r.map (img it),img it o,i)
def F5 (it:Nat→Keyed):B5→Option (Array Keyed)×Array Keyed×Nat×Nat×Nat×Nat:=fun (r,o,i)=>(r.map (img it),img it o,i)
def F6 (it:Nat→Keyed):B6→Option (Array Keyed)×Array Keyed×Nat×Nat×Nat×Nat×Nat:=fun (r,o,i)=>(r.map (img it),img it o,i)
theorem tk (v:List Nat) (i:Nat):List.take (v.length-i) (List.drop i v)=List.drop i v:=List.take_of_length_le (by simp)
theorem gK {n m:Nat} {v:List Nat} (h:m=n):(m==(img it v).size)=true↔(n==v.length)=true:=by rw [aH,h]
theorem cx {α β:Type} {F:α→β} {c:α} {d:β} (h:d=F c):Sm prog w A E s κ it (stF F) (pure (ForInStep.done d)) (pure (ForInStep.done c)):=ar (by rw [h]; rfl)
theorem fZ {α β:Type} {F:α→β} {c:α} {d:β} (h:d=F c):Sm prog w A E s κ it (stF F) (pure (ForInStep.yield d)) (pure (ForInStep.yield c)):=ar (by rw [h]; rfl)
theorem xL (hc:Cmp prog w A s κ it ok) (v u:List Nat):Sm prog w A E s κ it (img it) (mLo (img it v) (img it u)) (pLo ok v u):=by
 unfold pLo
 refine eJ (aj (cz _ _) fun y=>aw (gK rfl) (ar (om v u [y] 0 1)) (aw (gK rfl) (ar (om u v [y] 1 0)) (aj fj fun st=>aj (f:=F4 it) (bQ rfl (by rw [Nat.sub_zero,aH,aH]) fun x c=>?_) fun z=>?_)))
 ·obtain⟨r,o,i,j,g⟩:=c
  unfold l0
  refine aj (f:=F5 it) (bQ rfl (by rw [Nat.sub_zero,aH,aH]) fun x c=>?_) fun z=>?_
  ·obtain⟨r,o,i,j,a,b⟩:=c
   unfold l1
   refine aj (cz _ _) fun y=>aj (cz _ _) fun x=>aj (iY hc _ _) fun t=>aw Iff.rfl (aj (cz _ _) fun y=>aw (gK rfl) (cx ?_) (aw Iff.rfl (cx ?_) (fZ ?_))) (aj (cz _ _) fun y=>aw (gK rfl) (cx ?_) (aw Iff.rfl (cx ?_) (fZ ?_)))
   all_goals (show (_,_,_)=(_,_,_); simp only [F5,fN,bZ,om,Option.map])
  ·obtain⟨r,o,i,j,a,b⟩:=z
   cases r with
   | some r=>exact cx rfl
   | none=>
    refine eJ (aj (f:=F6 it) (bQ rfl (by rw [Nat.sub_zero,aH,aH]) fun x c=>?_) fun z=>?_)
    ·obtain⟨r,o,i,j,g,a,b⟩:=c
     unfold l2 l2a l2b l2c
     refine aw Iff.rfl ?_ ?_
     all_goals
      refine aj (o6 _) fun _=>aj (cz u j) fun y=>aj (iK hc ?_ rfl) fun k=>aw Iff.rfl (aw (gK rfl) (cx ?_) (aw (gK rfl) (cx ?_) ?_)) ?_
      ·rw [aH]; first | done | rfl
      ·show (_,_,_)=(_,_,_); simp only [F6,fN,bZ,bL,aH,bP,dn,tk,Option.map]
      ·show (_,_,_)=(_,_,_); simp only [F6,fN,bZ,bL,aH,bP,dn,tk,Option.map]
      all_goals
       dsimp only [F6,fN]
       try rw [bL,bP]
       refine aj (cz _ _) fun y=>aw (gK rfl) (cx ?_) (aj (cz _ _) fun x=>aj (iK hc ?_ rfl) fun k=>aw Iff.rfl (aw (gK rfl) (cx ?_) ?_) ?_)
       ·show (_,_,_)=(_,_,_); simp only [F6,fN,bZ,bL,aH,bP,dn,tk,Option.map]
       ·rw [aH]; first | done | rfl
       ·show (_,_,_)=(_,_,_); simp only [F6,fN,bZ,bL,aH,bP,dn,tk,Option.map]
       all_goals
        try rw [bZ]
        try rw [bL,bP]
        refine aj (cz _ _) fun x=>aw (gK rfl) (cx ?_) (aw Iff.rfl (cx ?_) (fZ ?_))
        all_goals (show (_,_,_)=(_,_,_); simp only [F6,fN,bZ,bL,aH,bP,dn,tk,Option.map])
    ·obtain⟨r,o,i,j,g,a,b⟩:=z
     cases r with
     | some r=>exact cx rfl
     | none=>exact aj (o6 _) fun _=>fZ rfl
 ·obtain⟨r,o,i,j,g⟩:=z
  cases r with
  | some r=>exact ar rfl
  | none=>exact iL
def G4 (it:Nat→Keyed):C4→Option (Array Keyed)×Nat×Nat×Array Keyed×Nat:=fun (r,i,j,o,z)=>(r.map (img it),i,j,img it o,z)
def G5 (it:Nat→Keyed):C5→Option (Array Keyed)×Nat×Nat×Array Keyed×Nat×Nat:=fun (r,i,j,o,z)=>(r.map (img it),i,j,img it o,z)
def G6 (it:Nat→Keyed):C6→Option (Array Keyed)×Nat×Nat×Array Keyed×Nat×Nat×Nat:=fun (r,i,j,o,z)=>(r.map (img it),i,j,img it o,z)
theorem wA {v:List Nat} {i j:Nat} (h:j=i):Sm prog w A E s κ it it (elem' (img it v) j) (pEl v i):=by subst h; exact cz _ _
theorem xM (hc:Cmp prog w A s κ it ok) (v u:List Nat):Sm prog w A E s κ it (img it) (mHi (img it v) (img it u)) (pHi ok v u):=by
 unfold pHi
 refine eJ (aj (wA ?e1) fun y=>aw ?e2 (ar ?e3) (aw ?e4 (ar ?e5) (aj fj fun st=>aj (f:=G4 it) (bQ ?e6 (by rw [Nat.sub_zero,aH,aH]) fun x c=>?_) fun z=>?_)))
 case e1=>rw [aH]
 case e2=>rw [aH]
 case e3=>rw [aH,aH]; exact on v u [y] _ _
 case e4=>rw [aH]
 case e5=>rw [aH,aH]; exact on u v [y] _ _
 case e6=>rw [aH,aH]; rfl
 ·obtain⟨r,i,j,o,g⟩:=c
  unfold h0
  refine aj (f:=G5 it) (bQ rfl (by rw [Nat.sub_zero,aH,aH]) fun x c=>?_) fun z=>?_
  ·obtain⟨r,i,j,o,a,b⟩:=c
   unfold h1
   refine aj (cz _ _) fun y=>aj (cz _ _) fun x=>aj (iY hc _ _) fun t=>aw Iff.rfl (aj (cz _ _) fun y=>aw Iff.rfl (cx ?_) (aw Iff.rfl (cx ?_) (fZ ?_))) (aj (cz _ _) fun y=>aw Iff.rfl (cx ?_) (aw Iff.rfl (cx ?_) (fZ ?_)))
   all_goals (show (_,_,_,_,_)=(_,_,_,_,_); simp only [G5,fN,bZ,on,Option.map])
  ·obtain⟨r,i,j,o,a,b⟩:=z
   cases r with
   | some r=>exact cx rfl
   | none=>
    refine eJ (aj (f:=G6 it) (bQ rfl (by rw [Nat.sub_zero,aH,aH]) fun x c=>?_) fun z=>?_)
    ·obtain⟨r,i,j,o,g,a,b⟩:=c
     unfold h2 h2a h2b h2c
     refine aw Iff.rfl ?_ ?_
     all_goals
      refine aj (o6 _) fun _=>aj (cz u _) fun y=>aj (iK hc rfl rfl) fun k=>aw Iff.rfl (aw Iff.rfl (cx ?_) ?_) ?_
      ·show (_,_,_,_,_)=(_,_,_,_,_); simp only [G6,fN,bZ,bL,bP,ef,dh,Nat.sub_zero,List.drop_zero,Option.map]
      all_goals
       dsimp only [G6,fN]
       try rw [bL,ef,bP]
       refine aj (cz _ _) fun y=>aw Iff.rfl (cx ?_) (aj (cz _ _) fun x=>aj (iK hc rfl rfl) fun k=>aw Iff.rfl (aw Iff.rfl (cx ?_) (aw Iff.rfl (cx ?_) ?_)) ?_)
       ·show (_,_,_,_,_)=(_,_,_,_,_); simp only [G6,fN,bZ,bL,bP,ef,dh,Nat.sub_zero,List.drop_zero,Option.map]
       ·show (_,_,_,_,_)=(_,_,_,_,_); simp only [G6,fN,bZ,bL,bP,ef,dh,Nat.sub_zero,List.drop_zero,Option.map]
       ·show (_,_,_,_,_)=(_,_,_,_,_); simp only [G6,fN,bZ,bL,bP,ef,dh,Nat.sub_zero,List.drop_zero,Option.map]
       all_goals
        try rw [bZ]
        try rw [bL,ef,bP]
        refine aj (cz _ _) fun x=>aw Iff.rfl (cx ?_) (aw Iff.rfl (cx ?_) (fZ ?_))
        all_goals (show (_,_,_,_,_)=(_,_,_,_,_); simp only [G6,fN,bZ,bL,bP,ef,dh,Nat.sub_zero,List.drop_zero,Option.map])
    ·obtain⟨r,i,j,o,g,a,b⟩:=z
     cases r with
     | some r=>exact cx rfl
     | none=>exact aj (o6 _) fun _=>fZ rfl
 ·obtain⟨r,i,j,o,g⟩:=z
  cases r with
  | some r=>exact ar rfl
  | none=>exact iL
theorem va (l:List Nat) (k x:Nat):(img it l).setIfInBounds k (it x)=img it (l.set k x):=by simp [img]
theorem lJ:∀ (l:List Nat) (n x:Nat),n<l.length→(l.set n x).take (n+1)=l.take n++[x]
 | a::l,0,x,_=>by simp
 | a::l,n+1,x,h=>by
  rw [List.set_cons_succ,List.take_succ_cons,List.take_succ_cons,lJ l n x (by simpa using h)]; rfl
theorem lL:∀ (l:List Nat) (n k x:Nat),n<k→(l.set n x).drop k=l.drop k
 | [],_,_,_,_=>by simp
 | a::l,0,k+1,x,_=>by simp
 | a::l,n+1,k+1,x,h=>by
  rw [List.set_cons_succ,List.drop_succ_cons,List.drop_succ_cons,lL l n k x (by omega)]
theorem vI:∀ (m l:List Nat) (k d:Nat),k+d+m.length≤l.length→
  (((m.map it).zipIdx d).foldl (fun (a:Array Keyed) p=>a.setIfInBounds (k+p.2) p.1) (img it l))=img it (l.take (k+d)++(m++l.drop (k+d+m.length)))
 | [],l,k,d,h=>by simp
 | x::m,l,k,d,h=>by
  simp only [List.map_cons,List.zipIdx_cons,List.foldl_cons,List.length_cons] at h ⊢
  rw [va,vI m (l.set (k+d) x) k (d+1) (by simp; omega)]
  rw [show k+(d+1)=k+d+1 by omega,lJ _ _ _ (by omega),lL _ _ _ _ (by omega),show k+d+1+m.length=k+d+(m.length+1) by omega]
  simp
theorem vO (k:Nat) (m:List Nat) {h:SortSt→SortSt} (e:∀ st,h st=setArr st ((img it m).toList.zipIdx.foldl (fun a p=>a.setIfInBounds (k+p.2) p.1) (arrOf st))):Sm prog w A E s κ it (fun a=>a) (modify h:StateT SortSt Sem PUnit) (wb k m):=by
 intro st c st' e' Q hQ
 refine wpS_modify ?_
 have e2:(if k+m.length≤st.a.length then sta (st.a.take k++(m++st.a.drop (k+m.length))) else fun _=>none) st=some (c,st'):=e'
 by_cases hk:k+m.length≤st.a.length
 ·rw [if_pos hk,ng] at e2
  cases e2
  rw [e]
  have:=vI (it:=it) m st.a k 0 (by omega)
  rw [Nat.add_zero] at this
  show Q () (SortSt.mk' _ (List.foldl _ (img it st.a) _) _ _ _)
  rw [show (img it m).toList=m.map it from rfl,this]
  exact hQ
 ·rw [if_neg hk] at e2; cases e2
theorem wy (hc:Cmp prog w A s κ it ok) {v u:List Nat} {a b:Array Keyed} (e:a=img it v) (e':b=img it u):Sm prog w A E s κ it (img it) (mLo a b) (pLo ok v u):=by subst e e'; exact xL hc v u
theorem wz (hc:Cmp prog w A s κ it ok) {v u:List Nat} {a b:Array Keyed} (e:a=img it v) (e':b=img it u):Sm prog w A E s κ it (img it) (mHi a b) (pHi ok v u):=by subst e e'; exact xM hc v u
theorem vP {α:Type} {a:α}:Sm prog w A E s κ it (fun _=>true) ((get:StateT SortSt Sem SortSt)>>=fun x=>pure (failedOf x).isNone) (pure a):=by
 intro st c st' e Q hQ
 cases e
 exact wpS_bind (wpS_get (wpS_pure hQ))
theorem vQ (hc:Cmp prog w A s κ it ok) (i:Nat):Sm prog w A E s κ it (fun _=>true) (mergeAt' i) (pMg ok i):=by
 unfold pMg
 refine aj fj fun st=>?_
 have e1:(pendingOf (im κ it st))[i]? = st.q[i]?:=by show st.q.toArray[i]? = _; simp
 have e2:(pendingOf (im κ it st))[i+1]? = st.q[i+1]?:=by show st.q.toArray[i+1]? = _; simp
 cases h1:st.q[i]? with
 | none=>exact iL
 | some u=>
  obtain⟨sa,na,pw⟩:=u
  cases h2:st.q[i+1]? with
  | none=>exact iL
  | some u'=>
   obtain⟨sb,nb,z⟩:=u'
   rw [h1] at e1; rw [h2] at e2
   dsimp only
   rw [e1,e2]
   refine aj (wx ?_) fun _=>aj (cz _ _) fun y=>aj (nq hc _ _ _ _ _ _) fun k=>aw Iff.rfl (ar rfl) (aj (cz _ _) fun x=>aj (nq hc _ _ _ _ _ _) fun m=>aw Iff.rfl (ar rfl) (aw Iff.rfl ?_ ?_))
   ·show SortSt.mk' _ _ ((st.q.toArray.setIfInBounds _ _).eraseIdxIfInBounds _) _ _=SortSt.mk' _ _ _ _ _
    congr 1
    simp
   ·exact aj (wy hc (bL _ _ _) (bL _ _ _)) fun r=>ee (vO _ _ fun st=>rfl) fun _=>vP
   ·exact aj (wz hc (bL _ _ _) (bL _ _ _)) fun r=>ee (vO _ _ fun st=>rfl) fun _=>vP
theorem rp {α β:Type} {f:α→β} {m m':StateT SortSt Sem β} {p:PM α} (h:Sm prog w A E s κ it f m p):Sm prog w A E s κ it f (if (!true)=true then m' else m) p:=h
theorem uz (hc:Cmp prog w A s κ it ok):Sm prog w A E s κ it (fun a=>a) sortRuns' (rQ ok):=by
 unfold rQ
 have hsz:∀ st:Pt,(arrOf (im κ it st)).size=st.a.length:=fun st=>aH _
 have hq:∀ (st:Pt) (i:Nat),(pendingOf (im κ it st))[i]? = st.q[i]?:=fun st i=>by show st.q.toArray[i]? = _; simp
 have hz:∀ st:Pt,(pendingOf (im κ it st)).size=st.q.length:=fun st=>by show st.q.toArray.size=_; simp
 refine aj fj fun st=>?_
 rw [hsz]
 refine aj (f:=fN) (bQ rfl rfl fun x lo=>?_) fun z=>ee (f:=fN) (bQ rfl rfl fun x lo=>?_) fun _=>ar rfl
 ·unfold yc
  refine aw Iff.rfl (ar rfl) (aj (rq hc _ _) fun n=>aw Iff.rfl (eJ (aj (wB hc _ _ _) fun _=>rp ?_)) ?_)
  all_goals
   unfold wI wJ
   refine aj fj fun st2=>?_
   have e:(pendingOf (im κ it st2)).back? = st2.q.getLast?:=by show st2.q.toArray.back? = _; simp
   cases h:st2.q.getLast? with
   | none=>
    rw [h] at e
    dsimp only
    rw [e]
    refine aj (ko fun st=>?_) fun _=>fZ rfl
    show SortSt.mk' _ _ (st.q.toArray.push _) _ _=SortSt.mk' _ _ _ _ _
    rw [List.push_toArray]; rfl
   | some u=>
    obtain⟨s1,n1,z⟩:=u
    rw [h] at e
    dsimp only
    rw [e]
    refine aj (f:=fN) (bQ rfl rfl fun x c=>?_) fun _=>aj (ko fun st=>?_) fun _=>aj (ko fun st=>?_) fun _=>fZ rfl
    ·unfold ye
     refine aj fj fun st3=>?_
     rw [hz,hq]
     cases h':(if st3.q.length > 1 then st3.q[st3.q.length-2]? else none) with
     | none=>exact ar rfl
     | some u'=>
      obtain⟨_,_,o⟩:=u'
      exact aw Iff.rfl (ar rfl) (aj (vQ hc _) fun _=>rp (ar rfl))
    ·show SortSt.mk' _ _ (st.q.toArray.modify (st.q.toArray.size-1) _) _ _=SortSt.mk' _ _ _ _ _
     rw [List.size_toArray,List.modify_toArray]; rfl
    ·show SortSt.mk' _ _ (st.q.toArray.push _) _ _=SortSt.mk' _ _ _ _ _
     rw [List.push_toArray]; rfl
 ·unfold yd
  refine aj fj fun st3=>?_
  dsimp only
  rw [hz,hq,hq]
  exact aw Iff.rfl (ar rfl) (aj (vQ hc _) fun _=>rp (ar rfl))
end
end Srt
set_option maxHeartbeats 1000000
namespace Srt
open PySem PyProof.Rows PySem.SeqAt
open AutoSeq1 (wpAny_loadPart')
open MeetsSeq MeetsSeq2 MeetsSeq3 SeqRoads2
def lx:List Int→List Int→Bool
 | [],[]=>false
 | [],_::_=>true
 | _::_,[]=>false
 | x::xs,y::ys=>if x==y then lx xs ys else decide (x<y)
theorem u7 (l b:Addr) (vs ws:List Value) (n n2:Nat) (hsz:vs.length=ws.length):∀ (k i:Nat) (xs ys:List Int),IntsAre (vs.drop i) xs→IntsAre (ws.drop i) ys→vs.length-i=k→
  Meets (Builtin.«list.__eq__.loop» ⟨[.ref l,.ref b,rawInt i,rawInt 0],[]⟩)
   (fun A R s=>s.heap.get? l=some {cls:=.type "list",data:=.seq vs.toArray n}∧s.heap.get? b=some {cls:=.type "list",data:=.seq ws.toArray n2}∧R (.ok (.ret (.bool (lx xs ys)))) s):=by
 intro k
 induction k with
 | zero=>
  intro i xs ys hx hy hk prog w A R s h
  obtain⟨hp,g,d,tk,os⟩:=s; obtain⟨hl,hb,h⟩:=h
  rw [List.drop_of_length_le (by omega)] at hx
  rw [List.drop_of_length_le (by omega)] at hy
  cases hx; cases hy
  wp_walk using wpAny_loadPart' hl,wpAny_loadPart' hb
  have hi1:vs.toArray[((i:Nat):Int).toNat]? = none:=by simp; omega
  have hi2:ws.toArray[((i:Nat):Int).toNat]? = none:=by simp; omega
  rw [hi1,hi2]
  wp_walk using wpAny_loadPart' hl,wpAny_loadPart' hb
  show R (.ok (.ret (.bool (decide (vs.toArray.size<ws.toArray.size))))) _
  rw [List.size_toArray,List.size_toArray,hsz]
  simpa [lx] using h
 | succ k ih=>
  intro i xs ys hx hy hk prog w A R s h
  obtain⟨hp,g,d,tk,os⟩:=s; obtain⟨hl,hb,h⟩:=h
  have hlt:i<vs.length:=by omega
  have hlt2:i<ws.length:=by omega
  rw [List.drop_eq_getElem_cons hlt] at hx
  rw [List.drop_eq_getElem_cons hlt2] at hy
  generalize e1:vs[i]=v at hx
  generalize e2:ws[i]=u at hy
  cases hx with
  | cons x tx hx=>
  cases hy with
  | cons y ty hy=>
  wp_walk using wpAny_loadPart' hl,wpAny_loadPart' hb
  have hi1:vs.toArray[((i:Nat):Int).toNat]? = some (.int x tx):=by simp [hlt,e1]
  have hi2:ws.toArray[((i:Nat):Int).toNat]? = some (.int y ty):=by simp [hlt2,e2]
  have hc:((i:Int)+1)=((i+1:Nat):Int):=by push_cast; rfl
  rw [hi1,hi2]
  refine wpAny_bind (EqAt.int_int x tx y ty prog w _ _ ?_)
  unfold lx at h
  cases hb':(x==y) with
  | true=>
   rw [hb',if_pos rfl] at h
   wp_walk
   rw [hc]
   exact⟨plainId_quiet plain_eq_loop _,codeAny_builtin entry_eq_loop (by
    rw [Around.under_plainId plain_eq_loop _]
    exact ih (i+1) _ _ hx hy (by omega) prog w A R _ ⟨hl,hb,h⟩)⟩
  | false=>
   rw [hb',if_neg (by decide)] at h
   wp_walk using wpAny_loadPart' hl,wpAny_loadPart' hb
   rw [hi1,hi2]
   refine wpAny_bind (show wpAny _ _ (richCompare .Lt (.int x tx) (.int y ty)) _ _ _ from wpAny_lt_int ?_)
   exact wpAny_pure h
theorem u8 (l b:Addr) (vs ws:List Value) (n n2:Nat) {xs ys:List Int} (hsz:vs.length=ws.length) (hx:IntsAre vs xs) (hy:IntsAre ws ys):Meets (Builtin.«list.__lt__» ⟨[.ref l,.ref b],[]⟩)
   (fun A R s=>s.heap.get? l=some {cls:=.type "list",data:=.seq vs.toArray n}∧s.heap.get? b=some {cls:=.type "list",data:=.seq ws.toArray n2}∧R (.ok (.ret (.bool (lx xs ys)))) s):=by
 intro prog w A R s h
 obtain⟨hp,g,d,tk,os⟩:=s; obtain⟨hl,hb,h⟩:=h
 have f3:=AutoSeq1.sub_list_list
 wp_walk using wpAny_loadPart' hl,wpAny_loadPart' hb
 exact⟨plainId_quiet plain_eq_loop _,codeAny_builtin entry_eq_loop (by
  rw [Around.under_plainId plain_eq_loop _]
  exact u7 l b vs ws n n2 hsz _ 0 xs ys hx hy rfl prog w A R _ ⟨hl,hb,h⟩)⟩
section
variable {prog:Program} {w:World} {A:Around} {E:Value→Shared→Prop} {s:Shared}
theorem wN {l b:Addr} {vs ws:List Value} {n n2:Nat} {xs ys:List Int} (hl:s.heap.get? l=some {cls:=.type "list",data:=.seq vs.toArray n}) (hb:s.heap.get? b=some {cls:=.type "list",data:=.seq ws.toArray n2})
  (hsz:vs.length=ws.length) (hx:IntsAre vs xs) (hy:IntsAre ws ys) (hu:A.units<cLine) {Q:Bool→Shared→Prop} (h:Q (lx xs ys) s):wpAny (model prog w) A (oneLt' false (.ref l) (.ref b)) Q E s:=by
 refine PySem.W.kat_one _ _ (show wpAny _ _ (richCompare .Lt (.ref l) (.ref b)) _ _ _ from ?_)
 exact richCompare_meets_room (op:=.Lt) ⟨_,hl,rfl⟩ ⟨_,hb,rfl⟩ F.slot_list_lt F.entry_list_lt (F.args_list_lt_2 _ _) (u8 l b vs ws n n2 hsz hx hy)
  ⟨hl,hb,show Value.bool (lx xs ys)≠Value.notImplemented∧Q (lx xs ys) s from ⟨(fun x=>nomatch x),h⟩⟩ hu
end
def cd:Nat→List Nat→Nat
 | a,[]=>a
 | a,x::r=>cd (4*a+(x-1)) r
def kn (r:List Nat):Nat:=cd 0 r+256*r.sum
abbrev iZ (r:List Nat):List Int:=r.map Int.ofNat
def Dg (r:List Nat):Prop:=∀ x∈r,1≤x∧x≤4
theorem oB:∀ (r r':List Nat) (a a':Nat),r.length=r'.length→Dg r→Dg r'→a<a'→cd a r<cd a' r'
 | [],[],a,a',_,_,_,h=>h
 | x::r,y::r',a,a',hl,h,h',e=>by
  obtain⟨x1,x4⟩:=h x List.mem_cons_self
  obtain⟨y1,y4⟩:=h' y List.mem_cons_self
  exact oB r r' _ _ (by simpa using hl) (fun z hz=>h z (List.mem_cons_of_mem _ hz)) (fun z hz=>h' z (List.mem_cons_of_mem _ hz)) (by omega)
 | [],_::_,_,_,hl,_,_,_=>by simp at hl
 | _::_,[],_,_,hl,_,_,_=>by simp at hl
theorem v7:∀ (r r':List Nat) (a:Nat),r.length=r'.length→Dg r→Dg r'→decide (cd a r<cd a r')=lx (iZ r) (iZ r')
 | [],[],a,_,_,_=>by simp [cd,lx]
 | x::r,y::r',a,hl,h,h'=>by
  obtain⟨x1,x4⟩:=h x List.mem_cons_self
  obtain⟨y1,y4⟩:=h' y List.mem_cons_self
  have dr:Dg r:=fun z hz=>h z (List.mem_cons_of_mem _ hz)
  have dr':Dg r':=fun z hz=>h' z (List.mem_cons_of_mem _ hz)
  have hl':r.length=r'.length:=by simpa using hl
  show decide (cd (4*a+(x-1)) r<cd (4*a+(y-1)) r')=(if ((x:Int)==(y:Int))=true then lx (iZ r) (iZ r') else decide ((x:Int)<(y:Int)))
  by_cases exy:x=y
  ·subst exy
   rw [if_pos (by simp)]
   exact v7 r r' _ hl' dr dr'
  ·rw [if_neg (by simp; omega)]
   by_cases hxy:x<y
   ·rw [decide_eq_true (oB r r' _ _ hl' dr dr' (by omega)),decide_eq_true (by omega)]
   ·have:=oB r' r (4*a+(y-1)) (4*a+(x-1)) hl'.symm dr' dr (by omega)
    rw [decide_eq_false (by omega),decide_eq_false (by omega)]
 | [],_::_,_,hl,_,_=>by simp at hl
 | _::_,[],_,hl,_,_=>by simp at hl
theorem wc:∀ (r:List Nat) (a:Nat),Dg r→cd a r<(a+1)*4 ^ r.length
 | [],a,_=>by simp [cd]
 | x::r,a,h=>by
  obtain⟨x1,x4⟩:=h x List.mem_cons_self
  have:=wc r (4*a+(x-1)) fun z hz=>h z (List.mem_cons_of_mem _ hz)
  refine Nat.lt_of_lt_of_le this ?_
  rw [List.length_cons,Nat.pow_succ,Nat.mul_comm _ 4,← Nat.mul_assoc]
  exact Nat.mul_le_mul_right _ (by omega)
theorem ym {r r':List Nat} (hl:r.length=r'.length) (h4:r.length≤4) (h:Dg r) (h':Dg r'):(kn r).blt (kn r')=if ((r.sum:Int)==(r'.sum:Int))=true then lx (iZ r) (iZ r') else decide ((r.sum:Int)<(r'.sum:Int)):=by
 have b:∀ q:List Nat,q.length≤4→Dg q→cd 0 q<256:=fun q hq d=>by
  refine Nat.lt_of_lt_of_le (wc q 0 d) ?_
  rw [Nat.zero_add,Nat.one_mul]
  exact Nat.le_trans (Nat.pow_le_pow_right (by decide) hq) (by decide)
 have b1:=b r h4 h
 have b2:=b r' (by omega) h'
 have e:(kn r).blt (kn r')=decide (kn r<kn r'):=by
  cases hb:(kn r).blt (kn r') with
  | true=>rw [decide_eq_true (by simpa using hb)]
  | false=>
   have : ¬ kn r<kn r':=fun z=>by rw [Nat.blt_eq.mpr z] at hb; cases hb
   rw [decide_eq_false this]
 rw [e]
 unfold kn
 by_cases es:r.sum=r'.sum
 ·rw [if_pos (by simp [es]),← v7 r r' 0 hl h h',es]
  congr 1
  exact propext (by omega)
 ·rw [if_neg (by simp; omega)]
  congr 1
  exact propext (by omega)
theorem pB:∀ r:List Int,lx r r=false
 | []=>rfl
 | x::r=>by unfold lx; rw [if_pos (by simp)]; exact pB r
def uc (h:Heap) (v:Value) (r:List Nat):Prop:=∃ ra vs n,v=.ref ra∧h.get? ra=some {cls:=.type "list",data:=.seq (List.toArray vs) n}∧IntsAre vs (iZ r)
def jC (h:Heap) (v:Value) (r:List Nat):Prop:=∃ ta ot tok u k,v=.ref ta∧h.get? ta=some ot∧ot.cls=.type "tuple"∧ot.data=.seq #[.int (r.sum:Int) tok,u] k∧uc h u r
section
variable {prog:Program} {w:World} {A:Around} {E:Value→Shared→Prop} {s:Shared}
theorem oq:∀ {vs:List Value} {xs:List Int},IntsAre vs xs→∀ j (h:j<vs.length),∃ t x,vs[j]=.int x t∧xs[j]? = some x
 | _,_,.cons n t r,0,_=>⟨t,n,rfl,rfl⟩
 | _,_,.cons n t r,j+1,h=>by simpa using oq r j (by simpa using h)
theorem jm:∀ {vs:List Value} {xs:List Int},IntsAre vs xs→vs.length=xs.length
 | _,_,.nil=>rfl
 | _,_,.cons _ _ r=>by simp [jm r]
theorem sY:∀ {vs:List Value} {xs ys:List Int},IntsAre vs xs→IntsAre vs ys→xs=ys
 | _,_,_,.nil,.nil=>rfl
 | _,_,_,.cons _ _ a,.cons _ _ b=>by rw [sY a b]
theorem vi {v u:Value} {r r':List Nat} (a:uc s.heap v r) (b:uc s.heap u r') (hl:r.length=r'.length) (hu:A.units<cLine):EqAt A s v u (decide (r=r')):=by
 obtain⟨ra,vs,n,rfl,ha,ia⟩:=a
 obtain⟨rb,ws,n2,rfl,hb,ib⟩:=b
 have l1:=jm ia
 have l2:=jm ib
 rw [List.length_map] at l1 l2
 by_cases e:ra=rb
 ·subst e
  rw [ha] at hb
  have ev:vs=ws:=by
   injection hb with hb; injection hb with _ _ hb; injection hb with hb _
   exact congrArg Array.toList hb
  subst ev
  have:=sY ia ib
  have er:r=r':=List.map_inj_right (fun x y h=>Int.ofNat.inj h) |>.mp this
  rw [decide_eq_true er]
  exact EqAt.same _
 ·have:=RcAt.lists (A:=A) (s:=s) (e:=fun j=>(r[j]? == r'[j]?)) (show s.heap.IsList ra (List.toArray vs) from ⟨_,ha,rfl,_,rfl⟩) (show s.heap.IsList rb (List.toArray ws) from ⟨_,hb,rfl,_,rfl⟩) (by simp; omega) hu fun j h1 h2=>by
   obtain⟨t,x,e1,e2⟩:=oq ia j (by simpa using h1)
   obtain⟨t',y,e3,e4⟩:=oq ib j (by simpa using h2)
   rw [List.getElem_toArray,List.getElem_toArray,e1,e3]
   rw [List.getElem?_map] at e2 e4
   obtain⟨x',q1,rfl⟩:=Option.map_eq_some_iff.mp e2
   obtain⟨y',q2,rfl⟩:=Option.map_eq_some_iff.mp e4
   show EqAt A.in1 s _ _ (r[j]? == r'[j]?)
   rw [q1,q2]
   have : (some x'==some y')=((x':Int)==(y':Int)):=by
    by_cases q:x'=y'
    ·subst q; simp
    ·have : (x':Int)≠(y':Int):=by omega
     rw [beq_eq_false_iff_ne.mpr (fun z=>q (Option.some.inj z)),beq_eq_false_iff_ne.mpr this]
   rw [this]
   exact EqAt.int_int _ _ _ _
  have q:(List.range (List.toArray vs).size).all (fun j=>(r[j]? == r'[j]?))=decide (r=r'):=by
   rw [List.size_toArray,l1]
   by_cases er:r=r'
   ·subst er; simp
   ·rw [decide_eq_false er,List.all_eq_false]
    refine Classical.byContradiction fun z=>er (List.ext_getElem? fun j=>?_)
    by_cases hj:j<r.length
    ·refine Classical.byContradiction fun q=>z ⟨j,by simpa using hj,by simpa using q⟩
    ·rw [List.getElem?_eq_none (by omega),List.getElem?_eq_none (by omega)]
  rw [q] at this
  exact EqAt.of_refs e this
theorem tX {v u:Value} {r r':List Nat} (a:jC s.heap v r) (b:jC s.heap u r') (hl:r.length=r'.length) (h4:r.length≤4) (h:Dg r) (h':Dg r') (hu:A.units<cLine) :
  wpAny (model prog w) A (keyLt' (tuples' true) v u) (fun c s'=>s'=s∧c=(kn r).blt (kn r')) E s:=by
 obtain⟨ta,ot,tok,ur,k,rfl,g1,g2,g3,a⟩:=a
 obtain⟨tb,ob,tok',ur',k',rfl,q1,q2,q3,b⟩:=b
 refine PySem.W.kat_lt g1 g3 q1 q3 ?_
 rw [ym hl h4 h h']
 refine PySem.W.kat_cons (EqAt.int_int _ _ _ _ prog w _ _ ?_)
 cases hs:((r.sum:Int)==(r'.sum:Int)) with
 | true=>
  refine PySem.W.kat_yes (PySem.W.kat_cons (vi a b hl hu prog w _ _ ?_))
  by_cases er:r=r'
  ·subst er
   rw [decide_eq_true rfl]
   refine PySem.W.kat_yes (PySem.W.kat_nil ⟨rfl,?_⟩)
   rw [if_pos rfl,pB]; rfl
  ·rw [decide_eq_false er]
   refine PySem.W.kat_no ?_
   obtain⟨ra,vs,n,rfl,ha,ia⟩:=a
   obtain⟨rb,ws,n2,rfl,hb,ib⟩:=b
   have l1:=jm ia
   have l2:=jm ib
   rw [List.length_map] at l1 l2
   exact wN ha hb (by omega) ia ib hu ⟨rfl,by rw [if_pos rfl]⟩
 | false=>
  refine PySem.W.kat_no ?_
  exact oneLt_int ⟨rfl,by rw [if_neg (by decide)]⟩
end
noncomputable def srt (K:List Nat):Option (List Nat):=
 if K.length<2 then some (List.range K.length) else match rQ (K.length,K) ⟨List.range K.length,[],7⟩ with
  | some (_,p)=>if p.a.all (·.blt K.length)&&Nat.ble p.a.length 1000 then some p.a else none
  | none=>none
def cG (a:Addr) (h h':Heap):Prop:=∀ b o,b≠a→h.get? b=some o→h'.get? b=some o
theorem cG.trans {a:Addr} {h h1 h2:Heap} (x:cG a h h1) (y:cG a h1 h2):cG a h h2:=fun b o n e=>y b o n (x b o n e)
theorem cG.push {a:Addr} {h h1:Heap} (x:cG a h h1) (o:Obj):cG a h (h1.push o):=fun b u n e=>Heap.get?_push_of_some _ (x b u n e)
theorem cG.upd (a:Addr) (h:Heap) (f:Obj→Obj):cG a h (h.update a f):=fun b o n e=>by rw [Heap.get?_update_ne _ _ _ _ n]; exact e
theorem ww {K p:List Nat} (h:srt K=some p):(∀ i∈p,i<K.length)∧p.length≤1000∨K.length<2∧p=List.range K.length:=by
 unfold srt at h
 split at h
 ·rename_i h2; exact .inr ⟨h2,(Option.some.inj h).symm⟩
 ·split at h
  ·split at h
   ·rename_i hb
    cases h
    simp only [Bool.and_eq_true,List.all_eq_true,Nat.blt_eq] at hb
    exact .inl ⟨fun i hi=>hb.1 i hi,Nat.le_of_ble_eq_true hb.2⟩
   ·cases h
  ·cases h
theorem srt_ok {K p:List Nat} (h:srt K=some p):(∀ i∈p,i<K.length)∧p.length≤1000:=by
 rcases ww h with h | ⟨h1,rfl⟩
 ·exact h
 ·exact⟨fun i hi=>List.mem_range.mp hi,by rw [List.length_range]; omega⟩
def itK (ks vs:List Value) (i:Nat):Keyed:=(ks.getD i .none,vs.getD i .none)
theorem kh {ks vs:List Value} (h:ks.length=vs.length):(ks.toArray.zip vs.toArray)=img (itK ks vs) (List.range vs.length):=by
 refine kO fun k=>?_
 by_cases hk:k<vs.length
 ·rw [List.getElem?_range hk]
  have hk':k<ks.length:=by omega
  rw [List.zip_toArray,List.getElem?_toArray,(List.getElem?_zip_eq_some (z:=(ks[k],vs[k]))).mpr ⟨List.getElem?_eq_getElem hk',List.getElem?_eq_getElem hk⟩]
  simp [itK,hk,hk']
 ·rw [List.getElem?_eq_none (by simp; omega)]
  simp; omega
theorem sQ {h:Heap}:∀ {vs:List Value} {rs:List (List Nat)},rs.length=vs.length→(∀ (i:Nat) (v:Value) (r:List Nat),vs[i]? = some v→rs[i]? = some r→jC h v r)→
  ∃ fs,PySem.W.KatTups h vs fs∧fs.length=vs.length∧∀ v∈fs,∃ i t,v=.int i t
 | [],_,_,_=>⟨[],PySem.W.KatTups.nil,rfl,fun _ z=>nomatch z⟩
 | v::vs,[],e,_=>by simp at e
 | v::vs,r::rs,e,hk=>by
  obtain⟨fs,h1,h2,h3⟩:=sQ (vs:=vs) (rs:=rs) (by simpa using e) fun i v r a b=>hk (i+1) v r (by simpa using a) (by simpa using b)
  obtain⟨ta,ot,tok,u,k,rfl,g1,g2,g3,_⟩:=hk 0 v r rfl rfl
  refine⟨_,PySem.W.KatTups.cons g1 g2 g3 (f:=.int (r.sum:Int) tok) rfl h1,by simp [h2],fun x hx=>?_⟩
  rcases List.mem_cons.mp hx with rfl | hx
  ·exact⟨_,_,rfl⟩
  ·exact h3 x hx
section
variable {prog:Program} {w:World} {A:Around} {E:Value→Shared→Prop} {s:Shared}
theorem oO {ks vs:List Value} {rs:List (List Nat)} {m:Nat} {p:List Nat} {κ:SortKind} (hlk:ks.length=vs.length) (hl:rs.length=vs.length) (h2:¬ vs.length<2) (hc:κ=tuples' true)
  (hm:∀ r∈rs,r.length=m∧Dg r) (h4:m≤4) (hk:∀ (i:Nat) (v:Value) (r:List Nat),ks[i]? = some v→rs[i]? = some r→jC s.heap v r) (hp:srt (rs.map kn)=some p) (hu:A.units<cLine)
  {Q:Unit×SortSt→Shared→Prop} (h:∀ st,(arrOf st).map (·.1)=(p.map (fun i=>ks.getD i Value.none)).toArray→(arrOf st).map (·.2)=(p.map (fun i=>vs.getD i Value.none)).toArray→failedOf st=none→Q ((),st) s) :
  wpAny (model prog w) A (sortRuns'.run (SortSt.mk' κ (ks.toArray.zip vs.toArray) #[] 7 none)) Q E s:=by
 subst hc
 have hK:(rs.map kn).length=vs.length:=by rw [List.length_map,hl]
 unfold srt at hp
 rw [if_neg (by rw [hK]; exact h2)] at hp
 split at hp
 ·rename_i x pt e
  split at hp
  ·cases hp
   have hcmp:Cmp prog w A s (tuples' true) (itK ks vs) ((rs.map kn).length,rs.map kn):=fun x y hx hy=>by
    have hx:x<vs.length:=by rw [← hK]; exact hx
    have hy:y<vs.length:=by rw [← hK]; exact hy
    obtain⟨r,hr⟩:∃ r,rs[x]? = some r:=⟨_,List.getElem?_eq_getElem (by omega)⟩
    obtain⟨r',hr'⟩:∃ r,rs[y]? = some r:=⟨_,List.getElem?_eq_getElem (by omega)⟩
    obtain⟨v,hv⟩:∃ r,ks[x]? = some r:=⟨_,List.getElem?_eq_getElem (by omega)⟩
    obtain⟨v',hv'⟩:∃ r,ks[y]? = some r:=⟨_,List.getElem?_eq_getElem (by omega)⟩
    have m1:=hm r (List.mem_of_getElem? hr)
    have m2:=hm r' (List.mem_of_getElem? hr')
    have ec:cK (rs.map kn) x y=(kn r).blt (kn r'):=by
     unfold cK
     rw [my,my,List.getElem?_map,List.getElem?_map,hr,hr']; rfl
    have e1:(itK ks vs x).1=v:=by show ks.getD x .none=v; rw [List.getD_eq_getElem?_getD,hv]; rfl
    have e2:(itK ks vs y).1=v':=by show ks.getD y .none=v'; rw [List.getD_eq_getElem?_getD,hv']; rfl
    rw [e1,e2]
    show wpAny _ _ _ (fun b s'=>s'=s∧b=cK (rs.map kn) x y) _ _
    rw [ec]
    exact tX (hk x v r hv hr) (hk y v' r' hv' hr') (by rw [m1.1,m2.1]) (by rw [m1.1]; exact h4) m1.2 m2.2 hu
   rw [kh hlk]
   have:=uz (E:=E) hcmp ⟨List.range (rs.map kn).length,[],7⟩ () pt e (fun _ st=>(arrOf st).map (·.1)=(pt.a.map (fun i=>ks.getD i Value.none)).toArray∧(arrOf st).map (·.2)=(pt.a.map (fun i=>vs.getD i Value.none)).toArray∧failedOf st=none) ⟨by
    show (img (itK ks vs) pt.a).map (·.1)=_
    simp [img,itK,Function.comp_def],by
    show (img (itK ks vs) pt.a).map (·.2)=_
    simp [img,itK,Function.comp_def],rfl⟩
   rw [hK] at this
   refine wpAny_mono this (fun r s' ⟨e1,e2,e3,e4⟩=>?_) fun _ _ z=>z
   subst e1
   obtain⟨⟨⟩,st⟩:=r
   exact h st e2 e3 e4
  ·cases hp
 ·cases hp
theorem pY {a:Addr} {n:Nat} {vs:List Value} {rs:List (List Nat)} {m:Nat} {p:List Nat} {P:PySem.Fin→Shared→Prop} (ho:s.heap.get? a=some (seqObj "list" vs.toArray n)) (hz:vs.length≤1000) (hl:rs.length=vs.length)
  (hm:∀ r∈rs,r.length=m∧Dg r) (h4:m≤4) (hk:∀ h',cG a s.heap h'→∀ (i:Nat) (v:Value) (r:List Nat),vs[i]? = some v→rs[i]? = some r→jC h' v r) (hp:srt (rs.map kn)=some p) (hu:A.units<cLine)
  (h:∀ h' c,cG a s.heap h'→h'.get? a=some (seqObj "list" (p.map (fun i=>vs.getD i Value.none)).toArray c)→P (.done (.ret .none)) {s with heap:=h'}) :
  wpAny (model prog w) A (Builtin.«list.sort» ⟨[.ref a],[]⟩) P E s:=by
 have s1:=cG.upd a s.heap (Obj.mapSeq fun _=>(#[]:Array Value))
 obtain⟨e1,ho1⟩:∃ e1,(s.heap.update a (Obj.mapSeq fun _=>(#[]:Array Value))).get? a=some (seqObj "list" #[] e1):=⟨_,get?_update_seq ho fun _=>#[]⟩
 have hpz:=(srt_ok hp).2
 rw [list_sort_plain]
 refine wpAny_bind (listItems_at ho rfl ?_)
 refine wpAny_bind (listUpdate_at ho rfl ?_ (by rw [List.size_toArray,sizeLine_eq]; omega) (Nat.zero_le _))
 refine wpAny_bind (seqEpoch_at ho1 rfl ?_)
 refine wpAny_bind (wpAny_newTuple ?_ (by show vs.length≤_; rw [sizeLine_eq]; omega))
 refine wpAny_bind (wpAny_newList ?_ (Nat.zero_le _))
 refine wpAny_holding ?_
 show wpAny (model prog w) A _ P E {s with heap:=((s.heap.update a (Obj.mapSeq fun _=>(#[]:Array Value))).push (seqObj "tuple" vs.toArray 0)).push (seqObj "list" #[] 0)}
 have K3:cG a s.heap (((s.heap.update a (Obj.mapSeq fun _=>(#[]:Array Value))).push (seqObj "tuple" vs.toArray 0)).push (seqObj "list" #[] 0)):=(s1.push _).push _
 have ho3:(((s.heap.update a (Obj.mapSeq fun _=>(#[]:Array Value))).push (seqObj "tuple" vs.toArray 0)).push (seqObj "list" #[] 0)).get? a=some (seqObj "list" #[] e1):=Heap.get?_push_of_some _ (Heap.get?_push_of_some _ ho1)
 generalize (((s.heap.update a (Obj.mapSeq fun _=>(#[]:Array Value))).push (seqObj "tuple" vs.toArray 0)).push (seqObj "list" #[] 0))=h3 at K3 ho3
 dsimp only
 have fin:∀ st:SortSt,(arrOf st).map (·.2)=(p.map (fun i=>vs.getD i Value.none)).toArray→failedOf st=none→wpAny (model prog w) A (do
   let touched:=(← seqEpoch a) != e1
   Builtin.List.listUpdate (.ref a) fun _=>(arrOf st).map (·.2)
   if let some e:=failedOf st then rule "list.sort.comparison-raised"; throw e
   if touched then rule "list.sort.modified"; raiseError "ValueError" "list modified during sort"
   ret .none) P E {s with heap:=h3}:=fun st hout hf=>by
  rw [hout]
  refine wpAny_bind (seqEpoch_at ho3 rfl ?_)
  obtain⟨c2,hc2⟩:∃ c2,(h3.update a (Obj.mapSeq fun _=>(p.map (fun i=>vs.getD i Value.none)).toArray)).get? a=some (seqObj "list" (p.map (fun i=>vs.getD i Value.none)).toArray c2):=⟨_,get?_update_seq ho3 fun _=>(p.map (fun i=>vs.getD i Value.none)).toArray⟩
  refine wpAny_bind (listUpdate_at ho3 rfl ?_ (Nat.zero_le _) (by rw [List.size_toArray,List.length_map,sizeLine_eq]; omega))
  rw [hf]
  simp only [bne_self_eq_false,Bool.false_eq_true,if_false]
  exact wpAny_pure (h _ c2 (K3.trans (cG.upd _ _ _)) hc2)
 by_cases h2:vs.length<2
 ·have hn2:vs.toArray.size<2:=by rw [List.size_toArray]; exact h2
  rw [if_pos hn2,if_pos hn2]
  refine wpAny_bind (wpAny_pure ?_)
  rw [StateT.run_pure]
  refine wpAny_bind (wpAny_pure (fin _ ?_ rfl))
  have e:p=List.range vs.length:=by
   unfold srt at hp
   rw [if_pos (by rw [List.length_map,hl]; exact h2)] at hp
   cases hp; rw [List.length_map,hl]
  show ((vs.toArray.zip vs.toArray).map (·.2))=_
  rw [kh rfl,e]
  simp [img,itK,Function.comp_def]
 ·have hn2:¬ vs.toArray.size<2:=by rw [List.size_toArray]; exact h2
  rw [if_neg hn2,if_neg hn2]
  obtain⟨fs,k1,k2,k3⟩:=sQ hl (hk h3 K3)
  refine wpAny_bind (PySem.W.kat_kind (T:=.type "int") k1 (by omega) (fun v hv=>?_) rfl ?_)
  ·obtain⟨i,t,rfl⟩:=k3 v hv
   exact PySem.W.Looks.of_pure rfl
  ·refine wpAny_bind (oO (s:={s with heap:=h3}) rfl hl h2 rfl hm h4 (hk h3 K3) hp hu fun st _ e2 e3=>fin st e2 e3)
end
section
variable {prog:Program} {w:World} {A:Around} {E:Value→Shared→Prop} {s:Shared}
theorem uw {a:Addr} {f:Value} {n:Nat} {vs:List Value} {rs:List (List Nat)} {m:Nat} {p:List Nat} {P:PySem.Fin→Shared→Prop} (ho:s.heap.get? a=some (seqObj "list" vs.toArray n)) (hz:vs.length≤1000) (hl:rs.length=vs.length)
  (hm:∀ r∈rs,r.length=m∧Dg r) (h4:m≤4) (hp:srt (rs.map kn)=some p) (hu:A.units<cLine)
  (h:∀ h3 kS e1,cG a s.heap h3→s.heap.objs.size≤kS→h3.get? a=some (seqObj "list" #[] e1)→h3.get? kS=some (seqObj "list" #[] 0)→∃ G:List Value→Nat→Shared→Prop,G [] 0 {s with heap:=h3}∧
   (∀ i v ks e s',vs[i]? = some v→ks.length=i→G ks e s'→wpAny (model prog w) A (call f [v]) (fun k s''=>s''.heap.get? kS=some (seqObj "list" ks.toArray e)∧∀ e',(s''.heap.update kS (Obj.mapSeq (·.push k))).get? kS=some (seqObj "list" (ks++[k]).toArray e')→G (ks++[k]) e' {s'' with heap:=s''.heap.update kS (Obj.mapSeq (·.push k))}) (fun _ _=>False) s')∧
   ∀ ks e s',ks.length=vs.length→G ks e s'→s'.heap.get? kS=some (seqObj "list" ks.toArray e)∧s'.heap.get? a=some (seqObj "list" #[] e1)∧(∀ (i:Nat) (v:Value) (r:List Nat),ks[i]? = some v→rs[i]? = some r→jC s'.heap v r)∧
    ∀ h5 h' c,cG kS s'.heap h5→cG a h5 h'→h'.get? a=some (seqObj "list" (p.map (fun i=>vs.getD i Value.none)).toArray c)→P (.done (.ret .none)) {s' with heap:=h'}) :
  wpAny (model prog w) A (ksk_tree a f false) P E s:=by
 have s1:=cG.upd a s.heap (Obj.mapSeq fun _=>(#[]:Array Value))
 obtain⟨e1,ho1⟩:∃ e1,(s.heap.update a (Obj.mapSeq fun _=>(#[]:Array Value))).get? a=some (seqObj "list" #[] e1):=⟨_,get?_update_seq ho fun _=>#[]⟩
 have hpz:=(srt_ok hp).2
 have ha:a<s.heap.objs.size:=Heap.lt_size ho
 unfold ksk_tree
 refine wpAny_bind (listItems_at ho rfl ?_)
 refine wpAny_bind (listUpdate_at ho rfl ?_ (by rw [List.size_toArray,sizeLine_eq]; omega) (Nat.zero_le _))
 refine wpAny_bind (seqEpoch_at ho1 rfl ?_)
 refine wpAny_bind (wpAny_newTuple ?_ (by show vs.length≤_; rw [sizeLine_eq]; omega))
 refine wpAny_bind (wpAny_newList ?_ (Nat.zero_le _))
 refine wpAny_holding ?_
 have hkS:((s.heap.update a (Obj.mapSeq fun _=>(#[]:Array Value))).push (seqObj "tuple" vs.toArray 0)).objs.size=s.heap.objs.size+1:=by rw [size_push',Heap.size_update]
 show wpAny (model prog w) A (ksk_rest a f false vs.toArray e1 (.ref ((s.heap.update a (Obj.mapSeq fun _=>(#[]:Array Value))).push (seqObj "tuple" vs.toArray 0)).objs.size)) P E {s with heap:=((s.heap.update a (Obj.mapSeq fun _=>(#[]:Array Value))).push (seqObj "tuple" vs.toArray 0)).push (seqObj "list" #[] 0)}
 have K3:cG a s.heap (((s.heap.update a (Obj.mapSeq fun _=>(#[]:Array Value))).push (seqObj "tuple" vs.toArray 0)).push (seqObj "list" #[] 0)):=(s1.push _).push _
 have ho3:(((s.heap.update a (Obj.mapSeq fun _=>(#[]:Array Value))).push (seqObj "tuple" vs.toArray 0)).push (seqObj "list" #[] 0)).get? a=some (seqObj "list" #[] e1):=Heap.get?_push_of_some _ (Heap.get?_push_of_some _ ho1)
 have hk3:(((s.heap.update a (Obj.mapSeq fun _=>(#[]:Array Value))).push (seqObj "tuple" vs.toArray 0)).push (seqObj "list" #[] 0)).get? (s.heap.objs.size+1)=some (seqObj "list" #[] 0):=by rw [← hkS]; exact Heap.get?_push_size _ rfl
 rw [hkS]
 generalize (((s.heap.update a (Obj.mapSeq fun _=>(#[]:Array Value))).push (seqObj "tuple" vs.toArray 0)).push (seqObj "list" #[] 0))=h3 at K3 ho3 hk3
 have ka:s.heap.objs.size+1≠a:=Nat.ne_of_gt (Nat.lt_succ_of_lt ha)
 obtain⟨G,g0,step,fin⟩:=h h3 (s.heap.objs.size+1) e1 K3 (Nat.le_succ _) ho3 hk3
 generalize s.heap.objs.size+1=kS at *
 unfold ksk_rest
 refine wpAny_bind (wpAny_rule ?_)
 rw [List.forIn_toArray]
 refine wpAny_bind (ksk_fold (fun i s'=>∃ ks e,ks.length=i∧G ks e s') vs 0 _ ⟨[],0,rfl,g0⟩ ?step ?done)
 case step=>
  rintro j x s' hx ⟨ks,e,hks,g⟩
  rw [Nat.zero_add] at hks
  have hj:j<vs.length:=(List.getElem?_eq_some_iff.mp hx).1
  refine wpAny_bind (wpAny_attempt (wpAny_mono (step j x ks e s' hx hks g) (fun v s'' he=>?_) fun _ _ hF=>hF.elim))
  obtain⟨nk,he⟩:=he
  dsimp only
  obtain⟨c2,hc2⟩:∃ c2,(s''.heap.update kS (Obj.mapSeq (·.push v))).get? kS=some (seqObj "list" (ks++[v]).toArray c2):=⟨_,by
   have:=get?_update_seq nk (·.push v)
   rw [show (ks++[v]).toArray=ks.toArray.push v by simp]; exact this⟩
  refine wpAny_bind (listUpdate_at nk rfl ?_ (by rw [List.size_toArray,sizeLine_eq]; omega) (by rw [Array.size_push,List.size_toArray,sizeLine_eq]; omega))
  exact wpAny_pure ⟨rfl,ks++[v],c2,by simp; omega,he c2 hc2⟩
 case done=>
  rintro s' ⟨ks,e,hks,g⟩
  rw [Nat.zero_add] at hks
  obtain⟨nk,na,hkey,fin⟩:=fin ks e s' hks g
  refine wpAny_bind (listItems_at nk rfl ?_)
  have tail:∀ st:SortSt,(arrOf st).map (·.2)=(p.map (fun i=>vs.getD i Value.none)).toArray→failedOf st=none→wpAny (model prog w) A (ksk_tail a false e1 (.ref kS) st) P E s':=fun st hout hf=>by
   unfold ksk_tail
   dsimp only
   rw [hout]
   have t1:=cG.upd kS s'.heap (Obj.mapSeq fun _=>(#[]:Array Value))
   have na1:(s'.heap.update kS (Obj.mapSeq fun _=>(#[]:Array Value))).get? a=some (seqObj "list" #[] e1):=t1 _ _ ka.symm na
   refine wpAny_bind (listUpdate_at nk rfl ?_ (by rw [List.size_toArray,sizeLine_eq]; omega) (Nat.zero_le _))
   refine wpAny_bind (wpAny_letGo ?_)
   refine wpAny_bind (seqEpoch_at na1 rfl ?_)
   obtain⟨c2,hc2⟩:∃ c2,((s'.heap.update kS (Obj.mapSeq fun _=>(#[]:Array Value))).update a (Obj.mapSeq fun _=>(p.map (fun i=>vs.getD i Value.none)).toArray)).get? a=some (seqObj "list" (p.map (fun i=>vs.getD i Value.none)).toArray c2):=⟨_,get?_update_seq na1 fun _=>(p.map (fun i=>vs.getD i Value.none)).toArray⟩
   refine wpAny_bind (listUpdate_at na1 rfl ?_ (Nat.zero_le _) (by show (if false=true then _ else _:Array Value).size≤_; rw [if_neg (by decide),List.size_toArray,List.length_map,sizeLine_eq]; omega))
   rw [hf]
   simp only [bne_self_eq_false,Bool.false_eq_true,if_false]
   exact wpAny_pure (fin _ _ c2 t1 (cG.upd _ _ _) hc2)
  unfold ksk_end
  simp only [Bool.false_eq_true,if_false]
  by_cases h2:vs.length<2
  ·have hn2:vs.toArray.size<2:=by rw [List.size_toArray]; exact h2
   rw [if_pos hn2,if_pos hn2]
   refine wpAny_bind (wpAny_pure ?_)
   rw [StateT.run_pure]
   refine wpAny_bind (wpAny_pure (tail _ ?_ rfl))
   have e:p=List.range vs.length:=by
    unfold srt at hp
    rw [if_pos (by rw [List.length_map,hl]; exact h2)] at hp
    cases hp; rw [List.length_map,hl]
   show ((ks.toArray.zip vs.toArray).map (·.2))=_
   rw [kh hks,e]
   simp [img,itK,Function.comp_def]
  ·have hn2:¬ vs.toArray.size<2:=by rw [List.size_toArray]; exact h2
   rw [if_neg hn2,if_neg hn2]
   obtain⟨fs,k1,k2,k3⟩:=sQ (hl.trans hks.symm) hkey
   refine wpAny_bind (PySem.W.kat_kind (T:=.type "int") k1 (by omega) (fun v hv=>?_) rfl ?_)
   ·obtain⟨i,t,rfl⟩:=k3 v hv
    exact PySem.W.Looks.of_pure rfl
   ·refine wpAny_bind (oO (s:=s') hks hl h2 rfl hm h4 hkey hp hu fun st _ e2 e3=>tail st e2 e3)
end
end Srt
namespace L2
open PySem PySem.Spec PyProof.Rows Srt
abbrev rV (r:List Nat):List V:=r.map fun (n:Nat)=>V.int (n:Int)
def jA (H:Hp) (v:V) (r:List Nat):Prop:=∃ ra,v=.ref ra∧H ra=some (.lst (rV r))
def gR (H:Hp) (v:V) (r:List Nat):Prop:=∃ ta u,v=.ref ta∧H ta=some (.tup [.int (r.sum:Int),u])∧jA H u r
theorem gU:∀ {r:List Nat} {its:List Value},aI (rV r) its→IntsAre its (iZ r)
 | [],_,.nil=>.nil
 | n::r,_,.cons ⟨t,e⟩ h=>by subst e; exact .cons _ t (gU h)
theorem jA.at {X:Cx} {pins:List (Addr×Obj)} {σ:St} {H:Hp} {s:Shared} {v:V} {u:Value} {r:List Nat} (h:jA H v r) (I:Inv X pins σ H s) (ru:aM v u):∃ ra its n,u=.ref ra∧s.heap.get? ra=some {cls:=.type "list",data:=.seq (List.toArray its) n}∧IntsAre its (iZ r):=by
 obtain⟨ra,rfl,e⟩:=h
 obtain⟨_,its,n,r',e'⟩:=I.hok ra _ e
 exact⟨ra,its,n,ru,e',gU r'⟩
theorem gR.key {X:Cx} {pins:List (Addr×Obj)} {σ:St} {H:Hp} {s:Shared} {v:V} {u:Value} {r:List Nat} (h:gR H v r) (I:Inv X pins σ H s) (ru:aM v u) {h':Heap} (k:∀ b o,s.heap.get? b=some o→h'.get? b=some o):jC h' u r:=by
 obtain⟨ta,x,rfl,e,hr⟩:=h
 obtain⟨_,its,r',⟨o,e1,e2,n,e3⟩⟩:=I.hok ta _ e
 cases r' with
 | cons r1 r'=>
 cases r' with
 | cons r2 r'=>
 cases r'
 obtain⟨t,rfl⟩:=r1
 obtain⟨ra,its2,n2,rfl,q1,q2⟩:=hr.at I r2
 exact⟨ta,o,t,_,n,ru,k _ _ e1,e2,e3,ra,its2,n2,rfl,k _ _ q1,q2⟩
theorem jN:∀ {xs:List V} {us:List Value},aI xs us→∀ i,aM (xs.getD i .non) (us.getD i .none)
 | _,_,.nil,i=>by simp; rfl
 | _,_,.cons r _,0=>r
 | _,_,.cons _ h,i+1=>jN h i
theorem fg {xs:List V} {us:List Value} (r:aI xs us):∀ p:List Nat,aI (p.map fun i=>xs.getD i .non) (p.map fun i=>us.getD i .none)
 | []=>.nil
 | i::p=>.cons (jN r i) (fg r p)
theorem dB:∀ {α β:Type} {R:α→β→Prop} {xs:List α} {ys:List β},Paired R xs ys→∀ {i:Nat} {x:α} {y:β},xs[i]? = some x→ys[i]? = some y→R x y
 | _,_,_,_,_,.nil,i,_,_,e,_=>by simp at e
 | _,_,_,_,_,.cons r _,0,_,_,e,e'=>by simp at e e'; subst e e'; exact r
 | _,_,_,_,_,.cons _ h,i+1,_,_,e,e'=>dB h (by simpa using e) (by simpa using e')
section
variable {X:Cx}
theorem kU (hu:X.A.units+64<cLine):cX X (.builtin "sorted") (fun xs H Q=>∃ (l:Addr) (ts:List V) (rs:List (List Nat)) (m:Nat) (p:List Nat),xs=[.ref l]∧SqL X.K H l ts∧ts.length≤1000∧Paired (gR H) ts rs∧(∀ r∈rs,r.length=m∧Dg r)∧m≤4∧srt (rs.map kn)=some p∧
  ∀ D,H D=none→Q (.ref D) (upd H D (.lst (p.map fun i=>ts.getD i .non)))):=by
 intro pins s σ H xs us Q I r h
 obtain⟨l,ts,rs,m,p,rfl,hl,hz,hpr,hm,h4,hp,q⟩:=h
 obtain⟨u,rfl,ru⟩:=eB r
 cases ru
 obtain⟨its,r',pl,_⟩:=I.list hl
 have hzi:its.length≤1000:=by rw [← r'.length]; exact hz
 have hli:s.heap.IsList l (List.toArray its):=pl.isList
 refine Calls.call_function_entry kind_sorted plain_sorted entry_sorted (args_sorted1 _) ?_
 unfold Builtin.«sorted»
 refine wpAny_bind (m:=checkCount "sorted" 1 1 _) (wpAny_pure ?_)
 refine wpAny_bind (collect_list hli ?_ (by rw [sizeLine_eq]; omega))
 refine wpAny_bind (wpAny_newList ?_ (by show (List.toArray its).toList.length≤_; rw [List.toList_toArray,sizeLine_eq]; omega))
 have hsz:((s.heap.push (seqObj "list" #[] 0)).update s.heap.objs.size (Obj.mapSeq (· ++ List.toArray its))).objs.size=s.heap.objs.size+1:=by
  rw [Heap.size_update,size_push']
 have hoL:(((s.heap.push (seqObj "list" #[] 0)).update s.heap.objs.size (Obj.mapSeq (· ++ List.toArray its))).push (seqObj "list" (List.toArray its) 0)).get? (s.heap.objs.size+1)=some (seqObj "list" (List.toArray its) 0):=by
  rw [← hsz]; exact Heap.get?_push_size _ rfl
 have keep:∀ b o,s.heap.get? b=some o→(((s.heap.push (seqObj "list" #[] 0)).update s.heap.objs.size (Obj.mapSeq (· ++ List.toArray its))).push (seqObj "list" (List.toArray its) 0)).get? b=some o:=fun b o q=>by
  have hlt:b<s.heap.objs.size:=Heap.lt_size q
  rw [Heap.get?_push_ne _ _ _ (by rw [hsz]; exact Nat.ne_of_lt (Nat.lt_succ_of_lt hlt)),Heap.get?_update_ne _ _ _ _ (Nat.ne_of_lt hlt),Heap.get?_push_ne _ _ _ (Nat.ne_of_lt hlt)]
  exact q
 show wpAny _ _ _ _ _ {s with heap:=((s.heap.push (seqObj "list" #[] 0)).update s.heap.objs.size (Obj.mapSeq (· ++ List.toArray its))).push (seqObj "list" (List.toArray its) 0)}
 rw [hsz]
 refine wpAny_bind (wpAny_holding (wpAny_call_entry slot_list_sort ⟨_,hoL,rfl⟩ entry_list_sort ?body (args_list_sort _)))
 have lr:rs.length=its.length:=by rw [← r'.length]; exact(Paired.length hpr).symm
 refine pY (s:={s with heap:=_}) hoL hzi lr hm h4 (fun h' kx i v r e1 e2=>?_) hp (show X.A.units+2<cLine by omega) fun h' c kx e=>?_
 ·have k2:∀ b o,s.heap.get? b=some o→h'.get? b=some o:=fun b o q=>kx b o (Nat.ne_of_lt (Nat.lt_succ_of_lt (Heap.lt_size q))) (keep b o q)
  have hi:i<ts.length:=by rw [r'.length]; exact(List.getElem?_eq_some_iff.mp e1).1
  obtain⟨t,ht⟩:∃ t,ts[i]? = some t:=⟨_,List.getElem?_eq_getElem hi⟩
  obtain⟨v',ev,rv⟩:=r'.get ht
  rw [e1] at ev; cases ev
  exact(dB hpr ht e2).key I rv k2
 ·have k2:∀ b o,s.heap.get? b=some o→h'.get? b=some o:=fun b o q=>kx b o (Nat.ne_of_lt (Nat.lt_succ_of_lt (Heap.lt_size q))) (keep b o q)
  refine⟨_,rfl,wpAny_pure ⟨_,rfl,?_⟩⟩
  refine⟨.ref (s.heap.objs.size+1),_,I.laid (t':=s.toks) (o:=.lst (p.map fun i=>ts.getD i .non)) k2 (Nat.le_succ _) ⟨?_,_,c,fg r' p,e⟩,rfl,q _ (I.hok.fresh (Nat.le_succ _))⟩
  rw [List.length_map]
  have:=(srt_ok hp).2
  rw [sizeLine_eq]; omega
end
end L2
set_option maxHeartbeats 4000000
namespace L2
open PySem PySem.Spec PyProof.Rows Srt
abbrev gZ (x:Str) (p:Pos):Arguments:={posonlyargs:=[],args:=[{arg:=x,annotation:=none,pos:=p}],vararg:=none,kwonlyargs:=[],kw_defaults:=[],kwarg:=none,defaults:=[]}
structure li (x:Str) (scope:Scope):Prop where
 kind:scope.kind=.function
 co:scope.isCoroutine=false
 gen:scope.isGenerator=false
 nocell:∀ y∈scope.names,y.2≠.cell
 nofree:∀ y∈scope.names,y.2≠.free
 loc:scope.names.lookup x=some .local
section
variable {P:Program} {w:World} {K:PySem.W.Frag} {mg:Str→Option Value} {base:Heap} {x:Str} {p:Pos} {name qual:Str} {scope:Scope} {f c':Addr} {pm ctv:Value} {A:Around} {outer:List Env} {s:Shared} {H:Hp} {E:XK} {Q:VK} {v:V} {u:Value} {body:Expr} {te:TE} {k:Nat}
theorem sW {h1:Heap} {tk:Nat} {cd:Value} (C:li x scope) (hd:A.handled=none) (e0:gS P w K mg base A outer s H) (hns:h1.Ns s.heap.objs.size (fun y=>[(x,u)].reverse.lookup y)) (hk:∀ b o,s.heap.get? b=some o→h1.get? b=some o) (r:aM v u) :
  Inv (js P w K mg base [x] qual scope [] f cd A outer s H E) [] [some v] H {s with heap:=h1,toks:=tk}:=by
 have nc:∀ y,¬ (scope.names.lookup y=some .cell∨scope.names.lookup y=some .free):=fun y h=>by
  rcases h with h | h
  ·exact C.nocell _ (PySem.mem_of_lookup h) rfl
  ·exact C.nofree _ (PySem.mem_of_lookup h) rfl
 refine⟨⟨e0.mod,C.kind,rfl,rfl,Nat.le_refl _,(fun x y c a b=>nomatch a),fun x h=>absurd h (nc x),(fun x c h=>nomatch h),fun _=>hd,Around.frames_deeper e0.frames,.inr ⟨rfl,rfl⟩,(fun b z=>nomatch z),e0.bs,e0.bsz,(fun b _ _ z=>nomatch z),(fun b z=>nomatch z),e0.funs,e0.frf⟩,
  rfl,e0.bare,Un.kept hk,⟨_,hns,fun i y v' a b _=>?_⟩,(fun x c h=>nomatch h),e0.hok.fresh (Nat.le_refl _),(fun x c h=>nomatch h),(fun p hp=>nomatch hp),e0.hok.kept hk,rfl⟩
 cases i with
 | zero=>
  cases a; cases b
  refine⟨u,r,.inl ⟨C.loc,?_⟩⟩
  show List.lookup x [(x,u)]=some u
  simp [List.lookup]
 | succ i=>simp [js] at a
theorem sP (ho:s.heap.get? f=some (PySem.W.kla_obj name qual (gZ x p) body scope [] pm c' ctv)) (hcd:s.heap.CodeRec (.ref c') qual) (hr:bN (k+1) A) (e0:gS P w K mg base A outer s H) (C:li x scope) (hba:bindArgs (PySem.W.kla_fn name qual (gZ x p) body scope [] pm (.ref c') ctv) ⟨[u],[]⟩=pure [(x,u)]) (r:aM v u)
  (hb:bN k (A.deeper (envX qual scope s.heap.objs.size f (.ref c') []))→PE ((js P w K mg base [x] qual scope [] f (.ref c') A outer s H E).exc E) body te) (hq:te [some v] H Q):codeAny (model P w) A (.call (.ref f) ⟨[u],[]⟩) (CR (CX1 P w) outer P w H s Q E) s:=by
 have lim:s.heap.NoLimit:=e0.mod.nolimit.keeps fun b o e=>(e0.bs b o e).1
 refine PySem.W.kla_callFunE hr.depth ho rfl C.co C.gen rfl hcd ?_
 rw [hba]
 refine wpAny_pure (wpAny_newFunctionEnv C.nocell (fun y hy=>by rw [List.mem_singleton.mp hy]; exact C.loc) (fun h1 hns hsb=>⟨lim.fresh _ hsb,?_⟩) C.kind)
 have hk:∀ b o,s.heap.get? b=some o→h1.get? b=some o:=fun b o e=>hsb.extBut b o (Nat.ne_of_lt (Heap.lt_size e)) (Heap.get?_push_of_some _ e)
 refine PySem.W.kla_codeExpr ?_
 have I:∀ tk,Inv (js P w K mg base [x] qual scope [] f (.ref c') A outer s H E) [] [some v] H {s with heap:=h1,toks:=tk}:=fun tk=>sW C hr.hd e0 hns hk r
 refine wpAny_mono (hb (hr.deeper _) [] _ [some v] H Q ((I _).wish _) hq) (fun u s' z=>?_) fun e s' z=>?_
 ·obtain⟨v,H',J,r,q⟩:=z
  exact⟨v,H',J.os,J.bare,J.base,J.hok,r,q⟩
 ·have z:XE (js P w K mg base [x] qual scope [] f (.ref c') A outer s H E) E e s':=z
  refine wpAny_mono z.leave (fun _ s3 z3=>?_) fun _ _ z=>z
  obtain⟨a,L,cls,dx,σ',H',fl,S',env0,rest,rfl,hs,hf0,hf,I',ex,hp',hS,hE⟩:=z3
  obtain rfl:fl=some .none:=hp'
  refine⟨a,cls,dx,H',S',rfl,I'.os,I'.bare,I'.base,I'.hok,ex,fun b hb=>⟨(hS b hb).un,?_⟩,hE⟩
  rcases(hS b hb).new with z | z
  ·exact absurd (show b∈([]:List Addr) from z) (by simp)
  ·exact z
end
section
variable {X:Cx} {pins:List (Addr×Obj)} {σ:St} {H:Hp} {s:Shared} {E:Value→Shared→Prop} {Q:Value→Shared→Prop} {params:Arguments} {body:Expr} {scope:Scope} {lpos:Pos} {cl:List (Str×Addr)} {c T:Addr}
theorem sN (I:Inv X pins σ H s) (tok:TblOk H T (X.env.qual++"<lambda>")) (hc:X.env.code=.ref c) (hC:PySem.W.CodeHd X.base c T) (hB:X.base.BuiltinsAt X.mg T) (hcl:closureFor scope X.env=pure cl) (hdef:defaultsOf params X.env=([],[]))
  (go:∀ (f c':Addr) (ctv pm:Value) (h':Heap) (tk:Nat) (H':Hp),Inv X pins σ H' {s with heap:=h',toks:=tk}→h'.get? f=some (PySem.W.kla_obj "<lambda>" (X.env.qual++"<lambda>") params body scope cl pm c' ctv)→H' f=none→s.heap.objs.size≤f→ay T H H'→TblOk H' T (X.env.qual++"<lambda>")→H' c'=some (ug c' (X.env.qual++"<lambda>"))→
   Q (.ref f) {s with heap:=h',toks:=tk}):wpAny (model X.prog X.w) X.A (eval (.Lambda params body scope lpos) X.env) Q E s:=by
 obtain⟨tb,hT,ht,hent⟩:=tok
 have hTs:s.heap.get? T=some (PySem.W.tabObj tb):=I.hok T _ hT
 have gG:mainGlobals≠T:=fun z=>by
  obtain⟨o,es,ep,e1,e2,_⟩:=I.ok.mod.glob
  have:=(I.bs _ _ e1).2
  rw [z,hT] at this; cases this
 have gN:s.heap.Ns mainGlobals X.mg:=I.ok.mod.glob.keeps I.bk
 have hBs:s.heap.BuiltinsAt X.mg T:=by
  obtain⟨bm,ob,b1,b2,b3,b4,b5,b6⟩:=hB
  exact⟨bm,ob,b1,b2,b3,b4,I.bk _ _ b5,b6⟩
 refine PySem.W.kla_eval hdef ?_
 cases hca:codeAmong lpos tb.toList with
 | none=>
  refine PySem.W.kla_makeFunction (mg:=X.mg) hcl I.ok.glob gN hc (hC.keeps I.bk) hTs ht hca gG hBs fun c' ctv h' tk hx hge hlt hrec htb=>?_
  have kp:∀ (o:Obj) b ob,b≠T→s.heap.get? b=some ob→(h'.push o).get? b=some ob:=fun o b ob n e=>Heap.get?_push_of_some _ (hx b ob n e)
  have fc:H c'=none:=I.hok.fresh hge
  have cT:c'≠T:=fun z=>by rw [z,hT] at fc; cases fc
  have J:∀ o:Obj,Inv X pins σ (upd (upd H T (.tbl (tb ++ #[rawInt lpos.line,rawInt lpos.col,.ref c']))) c' (ug c' (X.env.qual++"<lambda>"))) {s with heap:=h'.push o,toks:=tk}:=fun o=>by
   refine I.un (t':=tk) ⟨fun b ob e n hb _=>kp o b ob (fun z=>by rw [z,hT] at n; cases n) e,fun b ob e n hb _=>⟨ob.slots,kp o b ob (fun z=>by rw [z,hT] at n; cases n) e⟩,fun b ob e n _=>?_,fun b ob e _=>?_,fun b xs e=>?_,fun b oo u e=>?_,fun b ps0 e=>?_⟩ fun b u e=>?_
   ·rw [ag (Nat.ne_of_lt (Nat.lt_of_lt_of_le (Heap.lt_size e) hge)),ag fun z=>by rw [z,hT] at n; cases n]; exact n
   ·by_cases z:b=T
    ·rw [z]; exact⟨_,Heap.get?_push_of_some _ htb⟩
    ·exact⟨_,kp o b ob z e⟩
   ·rw [ag (al e fc),ag fun z=>by rw [z,hT] at e; cases e]; exact e
   ·rw [ag (al e fc),ag fun z=>by rw [z,hT] at e; cases e]; exact e
   ·rw [ag (al e fc)]
    by_cases z:b=T
    ·rw [z,hT] at e; cases e
     rw [z,ac]; exact⟨_,rfl⟩
    ·rw [ag z]; exact⟨#[],by rw [e]; simp⟩
   ·by_cases z:b=c'
    ·rw [z,ac] at e; cases e
     rw [z]
     have hr2:(h'.push o).CodeRec (.ref c') (X.env.qual++"<lambda>"):=by
      obtain⟨c0,oc,vs,t0,e1,e2,e3⟩:=hrec
      exact⟨c0,oc,vs,t0,e1,Heap.get?_push_of_some _ e2,e3⟩
     obtain⟨c0,oc,vs,t0,e1,e2,e3⟩:=id hr2
     cases e1
     exact⟨hr2,⟨_,e2⟩,fun h1 h2 ⟨c1,oc1,vs1,t1,f1,f2,f3⟩ kk1=>by cases f1; exact⟨_,oc1,vs1,t1,rfl,kk1 _ f2,f3⟩⟩
    ·rw [ag z] at e
     by_cases z2:b=T
     ·rw [z2,ac] at e; cases e
      rw [z2]; exact Heap.get?_push_of_some _ htb
     ·rw [ag z2] at e
      refine(I.hok b u e).stay (fun c0 w hc0 q0=>kp o c0 w (fun y=>?_) q0) (fun c0 q0=>?_) fun c0 xs q0=>?_
      ·rcases hc0 with hc0 | hc0
       ·exact z2 (hc0.symm.trans y)
       ·rw [y,hT] at hc0; cases hc0
      ·rw [ag (al q0 fc),ag fun y=>by rw [y,hT] at q0; cases q0]; exact q0
      ·rw [ag (al q0 fc),ag fun y=>by rw [y,hT] at q0; cases q0]; exact q0
  have hfs:s.heap.objs.size≤h'.objs.size:=Nat.le_of_lt (Nat.lt_of_le_of_lt hge hlt)
  refine go h'.objs.size c' ctv _ _ tk _ (J _) (Heap.get?_push_size _ rfl) ?_ hfs ?_ ?_ ac
  ·rw [ag (Nat.ne_of_gt hlt),ag (Nat.ne_of_gt (Nat.lt_of_lt_of_le (Heap.lt_size hTs) hfs))]
   exact I.hok.fresh hfs
  ·intro b o n e
   rw [ag (al e fc),ag n]; exact e
  ·refine⟨_,by rw [ag (Ne.symm cT),ac],by rw [Array.toList_append]; exact iq ht,fun q cv e=>?_⟩
   rw [Array.toList_append] at e
   rcases kf ht e with e | e
   ·obtain⟨c0,e1,e2⟩:=hent q cv e
    exact⟨c0,e1,by rw [ag (al e2 fc),ag fun z=>by rw [z,hT] at e2; cases e2]; exact e2⟩
   ·exact⟨c',e,ac⟩
 | some cv=>
  obtain⟨c',e1,e2⟩:=hent lpos cv hca
  subst e1
  refine PySem.W.kla_makeFunctionHit (mg:=X.mg) hcl I.ok.glob gN hc (hC.keeps I.bk) hTs ht hca hBs fun ctv h' tk hx hsz=>?_
  have J:∀ o:Obj,Inv X pins σ H {s with heap:=h'.push o,toks:=tk}:=fun o=>I.kept (t':=tk) fun b ob e=>Heap.get?_push_of_some _ (hx b ob e)
  exact go h'.objs.size c' ctv _ _ tk _ (J _) (Heap.get?_push_size _ rfl) (I.hok.fresh hsz) hsz (ay.refl _ _) ⟨tb,hT,ht,hent⟩ e2
end
inductive rSortL (K:PySem.W.Frag) (T:Addr) (qual:Str) (x:V) (H:Hp) (Q:VK):Prop where
 | mk (l:Addr) (ts:List V) (rs:List (List Nat)) (m:Nat) (p:List Nat):x=.ref l→SqL K H l ts→ts.length≤1000→Paired (jA H) ts rs→(∀ r∈rs,r.length=m∧Dg r)→m≤4→srt (rs.map kn)=some p→TblOk H T qual→
   (∀ D H',H D=none→H' D=some (.lst (p.map fun i=>ts.getD i .non))→ay T H H'→TblOk H' T qual→Q (.ref D) H')→rSortL K T qual x H Q
def wj (K:PySem.W.Frag) (T:Addr) (qual:Str) (ta:TE):TE:=fun σ H Q=>ta σ H fun x H1=>rSortL K T qual x H1 Q
theorem jA.keep {H H':Hp} {v:V} {r:List Nat} {T:Addr} (h:jA H v r) (s:ay T H H') (nT:∀ xs,H T≠some (.lst xs)):jA H' v r:=by
 obtain⟨ra,rfl,e⟩:=h
 exact⟨ra,rfl,s _ _ (fun z=>nT _ (by rw [← z]; exact e)) e⟩
theorem TblOk.nl {H:Hp} {T:Addr} {q:Str} (h:TblOk H T q) (xs:List V):H T≠some (.lst xs):=by
 obtain⟨ps,e,_⟩:=h
 rw [e]; intro z; cases z
theorem TblOk.same {H H':Hp} {T:Addr} {q:Str} (h:TblOk H T q) (s:av H H'):TblOk H' T q:=by
 obtain⟨ps,e,t,g⟩:=h
 exact⟨ps,s _ _ e,t,fun a b z=>let ⟨c,e1,e2⟩:=g a b z; ⟨c,e1,s _ _ e2⟩⟩
theorem jd {α β:Type} {R:α→β→Prop}:∀ {a a':List α} {b b':List β},Paired R a b→Paired R a' b'→Paired R (a++a') (b++b')
 | _,_,_,_,.nil,s=>s
 | _,_,_,_,.cons r t,s=>.cons r (jd t s)
section
variable {X:Cx} {x y:Str} {p pos kp lpos pp:Pos} {e:Expr} {ta:TE} {body:Expr} {scope:Scope} {c T:Addr} {te:XK→TE} {k:Nat}
theorem nI (ha:PE X e ta) (hg:Gl X x) (hm:X.mg x=none) (hv:bootBuiltins x=some (.builtin "sorted")) (hr:bN (k+4) X.A) (hc:X.env.code=.ref c) (hC:PySem.W.CodeHd X.base c T) (hB:X.base.BuiltinsAt X.mg T) (S:li y scope) (hcl:closureFor scope X.env=pure []) (hex:X.ex=[]) (hfn:∀ x,X.fn x=true)
  (hba:∀ (name qual:Str) (pm cd ctv u:Value),bindArgs (PySem.W.kla_fn name qual (gZ y pp) body scope [] pm cd ctv) ⟨[u],[]⟩=pure [(y,u)])
  (hb:∀ f cd A outer s H E,bN k (A.deeper (envX (X.env.qual++"<lambda>") scope s.heap.objs.size f cd []))→PE ((js X.prog X.w X.K X.mg X.base [y] (X.env.qual++"<lambda>") scope [] f cd A outer s H E).exc E) body (te E))
  (hte:∀ (E:XK) (ra:Addr) (r:List Nat) (H:Hp) (Q:VK),H ra=some (.lst (rV r))→(∀ t H',H t=none→H' t=some (.tup [.int (r.sum:Int),.ref ra])→av H H'→Q (.ref t) H')→te E [some (.ref ra)] H Q)
  (hn:x≠"__name__":=by decide) (hdb:(x==("__debug__":Str))=false:=by decide) (he:starEach [e] X.env=[(false,eval e X.env)]:=by rfl) :
  PE X (.Call (.Name x p) [e] [⟨some "key",.Lambda (gZ y pp) body scope lpos,kp⟩] pos) (wj X.K T (X.env.qual++"<lambda>") ta):=by
 intro pins s σ H Q I h
 refine wpAny_Call_Name_kw (fC I hg hm hv ?_ hn hdb)
 refine PyProof.Rows.callWith_kw ?_ (by rw [he]; rfl) (by rw [he]; rfl)
 rw [he]
 show wpAny _ _ (spliced ((false,eval e X.env)::[])) _ _ s
 refine Calls.spliced_cons (thn (ha pins s σ H _ I h) fun u s1 ⟨v1,H1,I1,r1,q1⟩=>Calls.spliced_nil ?_)
 obtain⟨l,ts,rs,m,pl,rfl,hl,hz,hpr,hm4,h4,hp,tok,q⟩:=q1
 obtain rfl:u=Value.ref l:=r1
 refine PyProof.Rows.kws_cons (sN I1 tok hc hC hB hcl rfl fun f c' ctv pm h' tk H2 I2 hf nf lf sx tok2 hcc=>PyProof.Rows.kws_nil ?_)
 have hpr2:Paired (jA H2) ts rs:=Paired.mapP hpr fun _ _ z=>z.keep sx tok.nl
 have hl2:SqL X.K H2 l ts:=by
  rcases hl with z | z
  ·refine .inl ?_
   rcases z with z | ⟨o,z⟩
   ·exact .inl (sx _ _ (fun w=>tok.nl _ (by rw [← w]; exact z)) z)
   ·refine .inr ⟨o,sx _ _ (fun w=>?_) z⟩
    obtain⟨ps,e0,_⟩:=tok
    rw [← w,z] at e0; cases e0
  ·exact .inr z
 obtain⟨its,r',pl2,_⟩:=I2.list hl2
 have hzi:its.length≤1000:=by rw [← r'.length]; exact hz
 have hli:h'.IsList l (List.toArray its):=pl2.isList
 show wpAny (model X.prog X.w) X.A (call (.builtin "sorted") [.ref l] [(Str.ofString "key",.ref f)]) (EP X pins σ Q) X.xe {s1 with heap:=h',toks:=tk}
 refine call_function_entry_kw kind_sorted plain_sorted entry_sorted (ksk_s1 _ _) ?_
 unfold Builtin.«sorted»
 refine wpAny_bind (m:=checkCount "sorted" 1 1 _) (wpAny_pure ?_)
 refine wpAny_bind (collect_list hli ?_ (by rw [sizeLine_eq]; omega))
 refine wpAny_bind (wpAny_newList ?_ (by show (List.toArray its).toList.length≤_; rw [List.toList_toArray,sizeLine_eq]; omega))
 have hsz:((h'.push (seqObj "list" #[] 0)).update h'.objs.size (Obj.mapSeq (· ++ List.toArray its))).objs.size=h'.objs.size+1:=by
  rw [Heap.size_update,size_push']
 have hoL:(((h'.push (seqObj "list" #[] 0)).update h'.objs.size (Obj.mapSeq (· ++ List.toArray its))).push (seqObj "list" (List.toArray its) 0)).get? (h'.objs.size+1)=some (seqObj "list" (List.toArray its) 0):=by
  rw [← hsz]; exact Heap.get?_push_size _ rfl
 have keep:∀ b o,h'.get? b=some o→(((h'.push (seqObj "list" #[] 0)).update h'.objs.size (Obj.mapSeq (· ++ List.toArray its))).push (seqObj "list" (List.toArray its) 0)).get? b=some o:=fun b o q=>by
  have hlt:b<h'.objs.size:=Heap.lt_size q
  rw [Heap.get?_push_ne _ _ _ (by rw [hsz]; exact Nat.ne_of_lt (Nat.lt_succ_of_lt hlt)),Heap.get?_update_ne _ _ _ _ (Nat.ne_of_lt hlt),Heap.get?_push_ne _ _ _ (Nat.ne_of_lt hlt)]
  exact q
 show wpAny _ _ _ _ _ {s1 with heap:=((h'.push (seqObj "list" #[] 0)).update h'.objs.size (Obj.mapSeq (· ++ List.toArray its))).push (seqObj "list" (List.toArray its) 0),toks:=tk}
 rw [hsz]
 generalize (((h'.push (seqObj "list" #[] 0)).update h'.objs.size (Obj.mapSeq (· ++ List.toArray its))).push (seqObj "list" (List.toArray its) 0))=h4' at hoL keep
 refine wpAny_bind (wpAny_holding (wpAny_call_entry_kw slot_list_sort ⟨_,hoL,rfl⟩ entry_list_sort ?body (ksk_l1 _ _)))
 rw [ksk_t1]
 have lr:rs.length=its.length:=by rw [← r'.length]; exact(Paired.length hpr).symm
 have ha0:h'.objs.size≤h'.objs.size+1:=Nat.le_succ _
 have az:∀ b o,h'.get? b=some o→b≠h'.objs.size+1:=fun b o q=>Nat.ne_of_lt (Nat.lt_succ_of_lt (Heap.lt_size q))
 have na:H2 (h'.objs.size+1)=none:=I2.hok.fresh ha0
 generalize h'.objs.size+1=a at hoL ha0 az na
 have sz4:h'.objs.size≤h4'.objs.size:=Nat.le_trans ha0 (Nat.le_of_lt (Heap.lt_size hoL))
 have hru:X.A.in1.in1.units<cLine:=by
  have:=hr.un
  show X.A.units+2<cLine; omega
 refine uw (s:={s1 with heap:=h4',toks:=tk}) hoL hzi lr hm4 h4 hp hru fun h3 kS e1 kx hkS a3 k3=>?_
 have kall:∀ b o,h'.get? b=some o→h3.get? b=some o:=fun b o q=>kx b o (az b o q) (keep b o q)
 have nkS:H2 kS=none:=I2.hok.fresh (Nat.le_trans sz4 hkS)
 have kSa:kS≠a:=Nat.ne_of_gt (Nat.lt_of_lt_of_le (Heap.lt_size hoL) hkS)
 have abv:X.s₀.heap.objs.size≤h'.objs.size:=I2.sz
 have locs:∀ b,h'.objs.size≤b→b≠X.env.locals∧b∉X.fs:=fun b hb=>⟨Nat.ne_of_gt (Nat.lt_of_lt_of_le I2.lt hb),I2.nofs hb⟩
 have cel:∀ y c0,X.env.cells.lookup y=some c0→c0≠kS:=fun y c0 e0 z=>by
  obtain⟨v0,o0,z1,_⟩:=I2.cell y c0 e0
  have:=Heap.lt_size z1
  rw [z] at this
  exact absurd (Nat.lt_of_lt_of_le this (Nat.le_trans sz4 hkS)) (Nat.lt_irrefl _)
 have fpin:∀ p0∈X.pn++pins,p0.1≠kS:=fun p0 hp0 z=>by
  have:=Heap.lt_size (I2.pin p0 hp0).1
  rw [z] at this
  exact absurd (Nat.lt_of_lt_of_le this (Nat.le_trans sz4 hkS)) (Nat.lt_irrefl _)
 have fne:f≠kS:=fun z=>by
  have:=Heap.lt_size hf
  rw [z] at this
  exact absurd (Nat.lt_of_lt_of_le this (Nat.le_trans sz4 hkS)) (Nat.lt_irrefl _)
 have I3:Inv X pins σ H2 {s1 with heap:=h3,toks:=tk}:=I2.kept (t':=tk) kall
 let PP:List Value→Nat→List (Addr×Obj):=fun ks e0=>(kS,lsO ks e0)::(a,lsO [] e1)::(f,PySem.W.kla_obj "<lambda>" (X.env.qual++"<lambda>") (gZ y pp) body scope [] pm c' ctv)::pins
 have oldf:f<h'.objs.size:=Heap.lt_size hf
 refine⟨fun ks e0 s'=>∃ (H':Hp) (us:List V),Inv X (PP ks e0) σ H' s'∧av H2 H'∧aI us ks∧Paired (gR H') us (rs.take ks.length),⟨H2,[],I3.pins_of fun p0 hp0=>?_,av.refl _,.nil,.nil⟩,?step,?fin⟩
 ·rcases List.mem_cons.mp hp0 with rfl | hp0
  ·exact⟨k3,nkS,(locs kS (Nat.le_trans sz4 hkS)).1,(locs kS (Nat.le_trans sz4 hkS)).2,fun v z=>by cases z⟩
  ·rcases List.mem_cons.mp hp0 with rfl | hp0
   ·exact⟨a3,na,(locs a ha0).1,(locs a ha0).2,fun v z=>by cases z⟩
   ·rcases List.mem_cons.mp hp0 with rfl | hp0
    ·exact⟨kall _ _ hf,nf,Nat.ne_of_gt (Nat.lt_of_lt_of_le I1.lt lf),I1.nofs lf,fun v z=>by cases z⟩
    ·exact I3.pin p0 (List.mem_append_right _ hp0)
 case step=>
  rintro i v ks e0 s' hv hks ⟨H',us,J,sm,vu,pr⟩
  have hi:i<ts.length:=by rw [r'.length]; exact(List.getElem?_eq_some_iff.mp hv).1
  obtain⟨t,ht⟩:∃ t,ts[i]? = some t:=⟨_,List.getElem?_eq_getElem hi⟩
  obtain⟨v',ev,rv⟩:=r'.get ht
  rw [hv] at ev; cases ev
  obtain⟨r,hr1⟩:∃ r,rs[i]? = some r:=⟨_,List.getElem?_eq_getElem (by rw [lr,← r'.length]; exact hi)⟩
  obtain⟨ra,rfl,era⟩:=dB hpr2 ht hr1
  obtain rfl:v=Value.ref ra:=rv
  have pf:=J.pin (f,PySem.W.kla_obj "<lambda>" (X.env.qual++"<lambda>") (gZ y pp) body scope [] pm c' ctv) (List.mem_append_right _ (List.mem_cons_of_mem _ (List.mem_cons_of_mem _ List.mem_cons_self)))
  have hr2:bN (k+1) X.A.in1.in1:=(bN.in1 (bN.in1 (hr.mono (show k+3≤k+4 by omega))))
  refine wpAny_call (codeAny_mono (sP (k:=k) (te:=te E0) (E:=E0) (Q:=fun w0 H0=>∃ t0,w0=.ref t0∧H0 t0=some (.tup [.int (r.sum:Int),.ref ra])∧av H' H0) pf.1 (J.hok c' _ (sm _ _ hcc)).1 hr2 J.env0.in1.in1 S (hba _ _ _ _ _ _) (v:=.ref ra) rfl (fun hr3=>hb f (.ref c') X.A.in1.in1 X.stack s' H' E0 hr3) (hte E0 ra r H' _ (sm _ _ era) fun t0 H0 n0 e1 s0=>⟨t0,rfl,e1,s0⟩)) fun r0 s2 hq=>?_)
  cases r0 with
  | error e=>obtain⟨_,_,_,_,_,_,_,_,_,_,_,_,z⟩:=hq; exact z.elim
  | ok fl=>
   cases fl with
   | next=>exact False.elim hq
   | brk=>exact False.elim hq
   | cont=>exact False.elim hq
   | ret u0=>
    obtain⟨w0,H0,J2,rw0,t0,rfl,et,s0⟩:=J.after hq
    obtain rfl:u0=Value.ref t0:=rw0
    have pk:=J2.pin (kS,lsO ks e0) (List.mem_append_right _ List.mem_cons_self)
    refine⟨pk.1,fun e' he'=>⟨H0,us++[.ref t0],?_,sm.trans s0,vu.append (show aI [V.ref t0] [Value.ref t0] from .cons rfl .nil),?_⟩⟩
    ·refine Inv.grown (k':=e') (us':=ks++[.ref t0]) J2 (Heap.SameBut.update _ _ _) he' (Nat.le_trans abv (Nat.le_trans sz4 hkS)) cel fun p0 hp0=>?_
     rcases List.mem_append.mp hp0 with hp0 | hp0
     ·exact fpin p0 (List.mem_append_left _ hp0)
     ·rcases List.mem_cons.mp hp0 with rfl | hp0
      ·exact kSa.symm
      ·rcases List.mem_cons.mp hp0 with rfl | hp0
       ·exact fne
       ·exact fpin p0 (List.mem_append_right _ hp0)
    ·have e1:rs.take (ks++[Value.ref t0]).length=rs.take ks.length++[r]:=by
      rw [List.length_append,List.length_singleton,List.take_succ,hks,hr1]; rfl
     rw [e1]
     refine jd (Paired.mapP pr fun _ _ ⟨ta0,u1,q1,q2,q3⟩=>⟨ta0,u1,q1,s0 _ _ q2,?_⟩) (.cons ⟨t0,.ref ra,rfl,et,ra,rfl,s0 _ _ (sm _ _ era)⟩ .nil)
     obtain⟨rb,z1,z2⟩:=q3
     exact⟨rb,z1,s0 _ _ z2⟩
 case fin=>
  rintro ks e0 s' hks ⟨H',us,J,sm,vu,pr⟩
  have pk:=J.pin (kS,lsO ks e0) (List.mem_append_right _ List.mem_cons_self)
  have pa:=J.pin (a,lsO [] e1) (List.mem_append_right _ (List.mem_cons_of_mem _ List.mem_cons_self))
  rw [hks,← lr,List.take_length] at pr
  refine⟨pk.1,pa.1,fun i v r e2 e3=>?_,fun h5 h6 c0 k5 k6 e6=>⟨_,rfl,wpAny_pure ⟨_,rfl,?_⟩⟩⟩
  ·have hi:i<us.length:=by rw [vu.length]; exact(List.getElem?_eq_some_iff.mp e2).1
   obtain⟨t,ht⟩:∃ t,us[i]? = some t:=⟨_,List.getElem?_eq_getElem hi⟩
   obtain⟨v',ev,rv⟩:=vu.get ht
   rw [e2] at ev; cases ev
   exact(dB pr ht e3).key J rv fun _ _ z=>z
  ·have fa:∀ p0∈X.pn++pins,p0.1≠a:=fun p0 hp0 z=>by
    have:=I2.pin p0 hp0
    exact az _ _ this.1 z
   have cela:∀ y c0,X.env.cells.lookup y=some c0→c0≠a:=fun y c0 e0 z=>by
    obtain⟨v0,o0,z1,_⟩:=I2.cell y c0 e0
    exact az _ _ z1 z
   have J0:Inv X pins σ H' s':=J.pins_of fun p0 hp0=>J.pin p0 (List.mem_append_right _ (List.mem_cons_of_mem _ (List.mem_cons_of_mem _ (List.mem_cons_of_mem _ hp0))))
   have J1:Inv X pins σ H' {s' with heap:=h5}:=J0.turned (t':=s'.toks) (it:=kS) k5 pk.2.1 pk.2.2.1 (.inr (Nat.le_trans abv (Nat.le_trans sz4 hkS))) cel fpin
   have J2:Inv X pins σ H' {s' with heap:=h6}:=Inv.turned (s:={s' with heap:=h5}) (t':=s'.toks) J1 (it:=a) k6 pa.2.1 pa.2.2.1 (.inr (Nat.le_trans abv ha0)) cela fa
   have s0n:X.s₀.heap.get? a=none:=Heap.get?_none_of_le (Nat.le_trans abv ha0)
   have J3:=J2.trackO (o:=.lst (pl.map fun i=>ts.getD i .non)) ⟨pa.2.1,.inr s0n,pa.2.2.1,cela,fa⟩ ⟨by
    rw [List.length_map]
    have:=(srt_ok hp).2
    rw [sizeLine_eq]; omega,_,c0,fg r' pl,e6⟩
   have sU:=af pa.2.1 (.lst (pl.map fun i=>ts.getD i .non))
   have n1:H1 a=none:=by
    cases z:H1 a with
    | none=>rfl
    | some o=>
     have:=sx a o (fun w=>?_) z
     ·rw [na] at this; cases this
     ·obtain⟨ps,e0',_⟩:=tok2
      rw [← w,na] at e0'; cases e0'
   refine⟨.ref a,_,J3,rfl,q a _ n1 ac (fun b o n z=>sU _ _ (sm _ _ (sx b o n z))) (tok2.same (sm.trans sU))⟩
end
end L2
namespace L2
open PySem PySem.Spec PyProof.Rows
section
variable {X:Cx} {n:Nat} {N':List Str} {scope:Scope} {kx vx tg iter:Expr} {pos:Pos} {pins:List (Addr×Obj)} {σ:St} {H2:Hp} {s2:Shared} {cl:List (Str×Addr)}
end
end L2
set_option maxHeartbeats 1000000
namespace L2
open PySem PySem.Spec PyProof.Rows
section
variable {P:Program} {w:World} {A:Around} {E:Value→Shared→Prop} {s:Shared}
end
section
variable {X:Cx} {E:Value→Shared→Prop}
theorem PE.wish {e:Expr} {t:TE} (h:PE X.nox e t) (E:Value→Shared→Prop):PE (X.wish E) e t:=PE.nox (X:=X.wish E) h
theorem PG.wish {e:Expr} {t:TG} (h:PG X.nox e t) (E:Value→Shared→Prop):PG (X.wish E) e t:=fun pins s σ H v u Q I r hw=>
 wpAny_mono (h pins s σ H v u Q (I.unwish.wish _) r hw) (fun _ _ ⟨σ',H',I',q⟩=>⟨σ',H',I'.unwish.wish _,q⟩) fun _ _ z=>False.elim z
theorem PI.wish {tg e:Expr} {t:TI} (h:PI X.nox tg e t) (E:Value→Shared→Prop):PI (X.wish E) tg e t:=fun pins s σ H R I hw=>
 wpAny_mono (h pins s σ H R (I.unwish.wish _) hw) (fun _ _ z=>wpAny_mono z (fun _ _ ⟨it,fp,tn,J,H2,e,I2,T,st2,f2,r⟩=>⟨it,fp,tn,J,H2,e,I2.unwish.wish _,T,st2,f2,r⟩) fun _ _ z=>False.elim z) fun _ _ z=>False.elim z
end
section
variable {P:Program} {w:World} {A:Around} {E:Value→Shared→Prop} {s:Shared}
end
end L2
namespace L2
open PySem PySem.Spec PyProof.Rows PySem.Builtin.Str
section
variable {X:Cx}
end
end L2
namespace L2
open PySem PySem.Spec PyProof.Rows
section
variable {P:Program} {w:World} {A:Around} {E:Value→Shared→Prop} {s:Shared} {It1 It2:Nat→Heap→Prop} {z TI TO i1 i2 l1 l2:Addr} {xs ys:Array Value} {k:Nat} {x y a b:Value}
end
section
variable {X:Cx} {elts:List Expr} {k:Nat} {tpos:Pos}
end
section
variable {X:Cx} {pins:List (Addr×Obj)} {σ:St} {H:Hp} {s:Shared}
end
section
variable {X:Cx} {tg:Expr}
end
end L2
namespace L2
open PySem PySem.Spec PyProof.Rows PySem.Builtin.Str
section
variable {P:Program} {w:World} {A:Around} {E:Value→Shared→Prop} {s:Shared}
end
section
variable {X:Cx}
end
end L2
set_option maxHeartbeats 4000000
namespace L2
open PySem PySem.Spec PyProof.Rows
section
variable {X:Cx} {elts:List Expr} {k:Nat} {tpos:Pos}
end
end L2
set_option maxHeartbeats 1000000
namespace L2
open PySem PySem.Spec PyProof.Rows
end L2
set_option maxHeartbeats 4000000
namespace L2
open PySem PySem.Spec PyProof.Rows
section
variable {X:Cx} {pins:List (Addr×Obj)} {σ:St} {H:Hp} {s:Shared}
theorem Inv.retell {a:Addr} {o u:HO} (I:Inv X pins σ H s) (e:H a=some o) (nt:∀ xs,o≠.tup xs) (no:∀ y,o≠.own y) (ntb:∀ ps,o≠.tbl ps) (nf:∀ ob v,X.H₀ a≠some (.frz ob v)) (ok:bh X.prog X.w (upd H a u) s.heap a u):Inv X pins σ (upd H a u) s:=by
 have nn:∀ b,H b=none→b≠a:=fun b q=>Ne.symm (al e q)
 have nu:∀ b v,H b=some v→o≠v→b≠a:=fun b v q n z=>by rw [z,e] at q; exact n (Option.some.inj q)
 refine⟨I.ok,I.os,I.bare,⟨I.base.keep,I.base.slot,fun b o q n hx=>?_,I.base.there,fun b xs q=>?_,fun b o xs q=>?_,fun b ps q=>?_⟩,I.loc,I.cell,?_,fun x c hc=>?_,fun p hp=>?_,fun b v q=>?_,I.len⟩
 ·have:=I.base.free b o q n hx
  rw [ag (nn b this)]; exact this
 ·have:=I.base.tups b xs q
  rw [ag (nu b _ this (nt xs))]; exact this
 ·rw [ag (fun z=>nf o xs (by rw [← z]; exact q))]; exact I.base.frzs b o xs q
 ·obtain⟨m,z⟩:=I.base.tbls b ps q
  exact⟨m,by rw [ag (nu b _ z (ntb _))]; exact z⟩
 ·rw [ag (nn _ I.free)]; exact I.free
 ·rw [ag (nn _ (I.freeC x c hc))]; exact I.freeC x c hc
 ·obtain⟨e1,n,r⟩:=I.pin p hp
  exact⟨e1,by rw [ag (nn _ n)]; exact n,r⟩
 ·by_cases hb:b=a
  ·subst hb
   rw [ac] at q; cases q
   exact ok
  ·rw [ag hb] at q
   exact(I.hok b v q).stay (fun _ _ _ z=>z) (fun c z=>by rw [ag (nu c _ z (no _))]; exact z) fun c xs z=>by rw [ag (nu c _ z (nt _))]; exact z
end
section
variable {X:Cx} {n:Nat} {N':List Str} {scope:Scope} {elt cnd tg iter:Expr} {pos:Pos}
theorem PT.wish {e:Expr} {t:TT} (h:PT X.nox e t) (E:Value→Shared→Prop):PT (X.wish E) e t:=PT.nox (X:=X.wish E) h
theorem lS {wi:TI} {g:aK TG} {tc:aK TT} {te:aK TE} {i:Nat} {x:Str} {pos' spos:Pos} (hN:X.N.Nodup) (hi0:X.N[i]? = some x) (hx:Loc X.env.scope x)
  (hsw:swapsWith (.ListComp elt [⟨tg,iter,[cnd],0⟩] scope pos) (some (.Name x pos')) spos.line X.env=pure true)
  (fr:eA X) (hc:X.calm=true) (S:bU n N' X.nox scope) (hi:PI X.nox tg iter wi)
  (hg:∀ cl C ex s H,PG (ax X.nox N' scope cl C ex s H) tg (g cl C ex s H)) (hcn:∀ cl C ex s H,PT (ax X.nox N' scope cl C ex s H) cnd (tc cl C ex s H)) (he:∀ cl C ex s H,PE (ax X.nox N' scope cl C ex s H) elt (te cl C ex s H))
  (hs:∀ x,foldedSetIterable iter X.env x=pure x:=by intro _; rfl) (hf:X.fn x=true∨X.env.scope.names.lookup x=some .local:=by first | exact .inl rfl | exact .inr rfl | assumption) :
  PS X.nox (.Assign [.Name x pos'] (.ListComp elt [⟨tg,iter,[cnd],0⟩] scope pos) spos) (pW (m8 n wi g tc te) (dQ i)):=by
 intro pins s σ H D I h
 have S':bU n N' X scope:=⟨S.kind,S.names,S.cell,S.free,S.nd,S.len,S.look⟩
 refine wpAny_mono (lT (X:=X) (E0:=fun _ _ _=>False) hN hi0 hx hsw fr hc S' (hi.wish _) (fun cl C ex s H=>PG.wish (X:=ax X N' scope cl C ex s H) (hg cl C ex s H) _) (fun cl C ex s H=>PT.wish (X:=ax X N' scope cl C ex s H) (hcn cl C ex s H) _) (fun cl C ex s H=>PE.wish (X:=ax X N' scope cl C ex s H) (he cl C ex s H) _) hs hf pins s σ H D (I.unwish.wish _) h)
  (fun f s' z=>?_) fun e s z=>?_
 ·have:=z.unwish
  cases f with
  | next=>obtain⟨σ',H',I,q⟩:=this; exact⟨σ',H',I.wish _,q⟩
  | brk=>obtain⟨σ',H',I,q⟩:=this; exact⟨σ',H',I.wish _,q⟩
  | cont=>obtain⟨σ',H',I,q⟩:=this; exact⟨σ',H',I.wish _,q⟩
  | ret u=>obtain⟨v,σ',H',I,r,q⟩:=this; exact⟨v,σ',H',I.wish _,r,q⟩
 ·obtain⟨a,L,cls,dx,σ',H',fl,S,env0,rest,h1,h2,h3,h4,h5,h6,h7,h8,hE⟩:=z
  exact hE
end
end L2
set_option maxHeartbeats 1000000
namespace L2
open PySem PySem.Spec PyProof.Rows
theorem sZ:∀ ns:List Nat,(Srt.iZ ns).sum=((ns.sum:Nat):Int)
 | []=>rfl
 | n::r=>by show (n:Int)+(Srt.iZ r).sum=_; rw [sZ r,List.sum_cons]; push_cast; rfl
section
variable {X:Cx}
inductive rSum (K:PySem.W.Frag) (xs:List V) (H:Hp) (Q:VK):Prop where
 | mk (l:Addr) (r:List Nat):xs=[.ref l]→SqL K H l (rV r)→Q (.int (r.sum:Int)) H→rSum K xs H Q
theorem gP (hh:X.A.handled=none):cX X (.builtin "sum") (rSum X.K):=by
 intro pins s σ H xs us Q I r h
 obtain⟨l,ns,rfl,hl,q⟩:=h
 obtain⟨u,rfl,ru⟩:=eB r
 cases ru
 obtain⟨its,r',pl,_⟩:=I.list hl
 have hI:=gU r'
 obtain⟨xs,e⟩:=(hI.allInts).items
 have hli:s.heap.IsList l (intItems xs):=by rw [← e]; exact pl.isList
 refine sum_intListG hh hli fun h' tk t' hk=>⟨.int _,H,I.kept (t':=tk) hk,⟨t',rfl⟩,?_⟩
 have e2:preSum (numAt xs) xs.size=((ns.sum:Nat):Int):=by
  have n1:=hI.numsOf
  rw [show its=(intItems xs).toList from by rw [← e],nums_intItems] at n1
  rw [preSum_eq,List.take_of_length_le (by simp),n1]
  exact sZ ns
 rw [e2]; exact q
end
section
variable {P:Program} {w:World} {A:Around} {E:Value→Shared→Prop} {s:Shared} {d it:Addr} {es:Array DictEntry} {ep i:Nat}
theorem nz {Q:Value→Shared→Prop} (hd:(d==sysModules)=false) (hm:Raw s.heap d es ep)
  (hQ:Q (.ref s.heap.objs.size) {s with heap:=s.heap.push {cls:=.type "dict_values",data:=.fields #[.ref d]}}):wpAny (model P w) A (call (.builtin "dict.values") [.ref d]) Q E s:=by
 have hT:=hm.typeIs
 refine wpAny_call_entry F.slot_dict_values hT F.entry_dict_values ?_ (F.args_dict_values_1 _)
 unfold Builtin.«dict.values»
 refine wpAny_bind ?_
 unfold Builtin.Dict.noArgs
 refine wpAny_bind (wpAny_notOrdered_dict hT ?_)
 show wpAny _ _ (pure d) _ _ s
 refine wpAny_pure ?_
 show wpAny _ _ (Builtin.Dict.showsAll d>>=_) _ _ s
 unfold Builtin.Dict.showsAll
 rw [if_neg (by rw [hd]; exact Bool.false_ne_true)]
 refine wpAny_bind (wpAny_pure ?_)
 exact wpAny_bind (wpAny_newObj_type (wpAny_pure ⟨_,rfl,hQ⟩))
theorem p7 {v:Addr} {Q:Value→Shared→Prop} (hv:s.heap.IsValuesView v d) (hm:Raw s.heap d es ep)
  (hQ:Q (.ref s.heap.objs.size) {s with heap:=s.heap.push {cls:=.type "dict_valueiterator",data:=.fields #[.ref d,.int 0 0,.int es.size 0,.int ep 0]}}):wpAny (model P w) A (pyIter (.ref v)) Q E s:=by
 obtain⟨ov,hov,hcv,hdv⟩:=id hv
 obtain⟨o,ho,hc,hdat⟩:=hm
 refine wpAny_pyIter_slot hv.typeIs F.slot_dict_values_iter (wpAny_call_entry F.slot_dict_values_iter hv.typeIs F.entry_dict_values_iter ?_ (F.args_dict_values_iter_1 _))
 unfold Builtin.«dict_values.__iter__»
 refine wpAny_bind (wpAny_pure (wpAny_bind ?_))
 unfold Builtin.Dict_items.dictOf
 refine wpAny_bind (wpAny_field hov hdv (x:=.ref d) rfl (wpAny_pure (wpAny_bind ?_)))
 unfold Builtin.Dict_items.newIterator
 refine wpAny_bind (wpAny_dictEntries ho hdat (wpAny_bind (wpAny_dictEpoch ho hdat ?_)))
 have hown:Builtin.Dict_items.ownsTuple "dict_valueiterator"=false:=by decide
 simp only [hown,Bool.false_eq_true,if_false]
 refine wpAny_newObj_type (wpAny_pure ⟨_,rfl,"dict_valueiterator",_,⟨_,Heap.get?_push_size _ rfl,rfl⟩,F.slot_dict_valueiterator_next.lookup,?_⟩)
 simpa [rawInt] using hQ
theorem p9 {Q:Option Value→Shared→Prop} (hit:s.heap.IsValIter it d i es.size ep) (hm:Raw s.heap d es ep) (hlt:i<es.size)
  (hQ:∀ h',h'.IsValIter it d (i+1) es.size ep→Heap.SameBut it s.heap h'→Q (some es[i].val) {s with heap:=h'}):wpAny (model P w) A (pyNext (.ref it)) Q E s:=by
 obtain⟨o,ho,hc,hd⟩:=id hit
 obtain⟨od,hod,hcd,hdd⟩:=id hm
 unfold pyNext
 refine wpAny_bind (wpAny_attempt (wpAny_callSpecial?_slot (name:=Str.ofString "__next__") hit.typeIs F.slot_dict_valueiterator_next (wpAny_call_entry F.slot_dict_valueiterator_next hit.typeIs F.entry_dict_valueiterator_next ?_ (F.args_dict_valueiterator_next_1 _))))
 refine wpAny_bind (wpAny_pure (wpAny_bind (wpAny_bind ?_)))
 first | refine wpAny_bind (wpAny_typeNameOfWhole_valiter hit.typeIs (wpAny_pure ?_)) | refine wpAny_bind (wpAny_typeNameOf_valiter hit.typeIs (wpAny_pure ?_))
 refine wpAny_bind (wpAny_fieldsOf ho hd ?_)
 have hown:Builtin.Dict_items.ownsTuple "dict_valueiterator"=false:=by decide
 simp only [hown,Bool.false_eq_true,if_false]
 show wpAny _ _ (if (Value.ref d==Value.none)=true then _ else _) _ _ s
 rw [if_neg (show ¬ ((Value.ref d==Value.none)=true) from Bool.false_ne_true)]
 refine wpAny_bind (wpAny_pure (wpAny_bind (wpAny_dictEntries hod hdd ?_)))
 rw [if_neg (by simp)]
 refine wpAny_bind (wpAny_pure (wpAny_bind (wpAny_dictEpoch hod hdd ?_)))
 rw [if_neg (by simp)]
 refine wpAny_pure ?_
 simp only [show ¬ ((i:Int)<0) from by omega,if_false,Int.toNat_natCast,Array.getElem?_eq_getElem hlt]
 refine wpAny_bind ?_
 first | refine wpAny_bind (wpAny_typeNameOfWhole_valiter hit.typeIs (wpAny_pure ?_)) | refine wpAny_bind (wpAny_typeNameOf_valiter hit.typeIs (wpAny_pure ?_))
 refine wpAny_bind (wpAny_isOneOf_valiter hit.typeIs ?_)
 show wpAny _ _ (setField (.ref it) 1 (rawInt ((i:Int)+1))>>=_) _ _ s
 refine wpAny_bind (wpAny_setField ho hd (by simp) ?_)
 have hit':(s.heap.update it (Obj.mapFields (·.setIfInBounds 1 (rawInt ((i:Int)+1))))).IsValIter it d (i+1) es.size ep:=
  ⟨_,Heap.get?_update_self _ ho (Obj.isFreed_of_fields (Obj.data_mapFields hd _)),(Obj.cls_mapFields ..).trans hc,by rw [Obj.data_mapFields hd]; simp [rawInt]⟩
 refine wpAny_bind (wpAny_holding ?_)
 refine wpAny_bind (wpAny_isOneOf_valiter (s:={s with heap:=s.heap.update it (Obj.mapFields (·.setIfInBounds 1 (rawInt ((i:Int)+1))))}) hit'.typeIs ?_)
 refine wpAny_bind (wpAny_isOneOf_valiter (s:={s with heap:=s.heap.update it (Obj.mapFields (·.setIfInBounds 1 (rawInt ((i:Int)+1))))}) hit'.typeIs ?_)
 show wpAny _ _ (pure es[i].val) _ _ _
 exact wpAny_pure (wpAny_pure ⟨_,rfl,wpAny_pure (hQ _ hit' (Heap.SameBut.update ..))⟩)
theorem rG {Q:Option Value→Shared→Prop} (hh:A.handled=none) (hit:s.heap.IsValIter it d es.size es.size ep) (hm:Raw s.heap d es ep)
  (hQ:∀ h',Heap.ExtBut it s.heap h'→Q none {s with heap:=h'}):wpAny (model P w) A (pyNext (.ref it)) Q E s:=by
 obtain⟨o,ho,hc,hd⟩:=id hit
 obtain⟨od,hod,hcd,hdd⟩:=id hm
 unfold pyNext
 refine wpAny_bind (wpAny_attempt (wpAny_callSpecial?_slot (name:=Str.ofString "__next__") hit.typeIs F.slot_dict_valueiterator_next (wpAny_call_entry F.slot_dict_valueiterator_next hit.typeIs F.entry_dict_valueiterator_next ?_ (F.args_dict_valueiterator_next_1 _))))
 refine wpAny_bind (wpAny_pure (wpAny_bind (wpAny_bind ?_)))
 first | refine wpAny_bind (wpAny_typeNameOfWhole_valiter hit.typeIs (wpAny_pure ?_)) | refine wpAny_bind (wpAny_typeNameOf_valiter hit.typeIs (wpAny_pure ?_))
 refine wpAny_bind (wpAny_fieldsOf ho hd ?_)
 have hown:Builtin.Dict_items.ownsTuple "dict_valueiterator"=false:=by decide
 simp only [hown,Bool.false_eq_true,if_false]
 show wpAny _ _ (if (Value.ref d==Value.none)=true then _ else _) _ _ s
 rw [if_neg (show ¬ ((Value.ref d==Value.none)=true) from Bool.false_ne_true)]
 refine wpAny_bind (wpAny_pure (wpAny_bind (wpAny_dictEntries hod hdd ?_)))
 rw [if_neg (by simp)]
 refine wpAny_bind (wpAny_pure (wpAny_bind (wpAny_dictEpoch hod hdd ?_)))
 rw [if_neg (by simp)]
 refine wpAny_pure ?_
 simp only [show ¬ ((es.size:Int)<0) from by omega,if_false,Int.toNat_natCast,Array.getElem?_eq_none (Nat.le_refl es.size)]
 refine wpAny_bind ?_
 first | refine wpAny_bind (wpAny_typeNameOfWhole_valiter hit.typeIs (wpAny_pure ?_)) | refine wpAny_bind (wpAny_typeNameOf_valiter hit.typeIs (wpAny_pure ?_))
 show wpAny _ _ (setField (.ref it) 0 .none>>=_) _ _ s
 refine wpAny_bind (wpAny_setField ho hd (by simp) ?_)
 show wpAny _ _ (newExc (.type "StopIteration") []>>=_) _ _ _
 refine wpAny_bind ?_
 simp only [newExc,newTuple]
 refine wpAny_bind (wpAny_newObj_type ?_ (by size_fits))
 refine wpAny_bind (m:=firstArgMember _ _) (wpAny_of_eq (a:=Value.none) (by first | rfl | (simp only [firstArgMember]; rfl)) ?_)
 refine wpAny_newObj_type ?_ (by size_fits)
 simp only [raiseNew]
 refine wpAny_bind (wpAny_handled ?_)
 rw [show A.in1.handled=none from hh]
 refine wpAny_bind (wpAny_pure (wpAny_throw ?_))
 refine wpAny_bind (wpAny_isInstance (T:="StopIteration") (b:=true) ⟨_,Heap.get?_push_size _ rfl,rfl⟩ isSubtype_stop ?_)
 exact wpAny_pure (hQ _ (((Heap.SameBut.update ..).extBut.push _).push _))
end
section
variable {X:Cx} {pins:List (Addr×Obj)} {σ:St} {H:Hp} {s:Shared}
theorem Inv.freezeC {a:Addr} {cd:CD} (I:Inv X pins σ H s) (e:H a=some (bu X.prog X.w a cd)):∃ ob,Inv X pins σ (upd H a (.frz ob (bu X.prog X.w a cd))) s∧∀ ob v,X.H₀ a≠some (.frz ob v):=by
 have nf:∀ ob v,X.H₀ a≠some (.frz ob v):=fun ob v z=>by have:=I.base.frzs a ob v z; rw [e] at this; cases this
 have ok:=I.hok a _ e
 obtain⟨z,⟨ob,g⟩,y⟩:=id ok
 exact⟨ob,I.retell e (fun _ z=>nomatch z) (fun _ z=>nomatch z) (fun _ z=>nomatch z) nf ⟨g,z,⟨ob,g⟩,y⟩,nf⟩
theorem Inv.thawC {a:Addr} {ob:Obj} {cd:CD} (I:Inv X pins σ H s) (e:H a=some (.frz ob (bu X.prog X.w a cd))) (nf:∀ ob v,X.H₀ a≠some (.frz ob v)):Inv X pins σ (upd H a (bu X.prog X.w a cd)) s:=by
 obtain⟨g,z⟩:=I.hok a _ e
 exact I.retell e (fun _ z=>nomatch z) (fun _ z=>nomatch z) (fun _ z=>nomatch z) nf z
inductive sFrzCI (P:Program) (w:World) (t:TS) (D:jD) (σ:St) (H:Hp):Prop where
 | mk (a:Addr) (cd:CD):H a=some (bu P w a cd)→(∀ ob,t {nx:=fun σ' H'=>H' a=some (.frz ob (bu P w a cd))∧D.nx σ' (upd H' a (bu P w a cd)),rt:=fun _ _=>False} σ (upd H a (.frz ob (bu P w a cd))))→sFrzCI P w t D σ H
def xR (P:Program) (w:World) (t:TS):TS:=fun D σ H=>sFrzCI P w t D σ H
theorem uK {st:Stmt} {t:TS} (h:PS X st t):PS X st (xR X.prog X.w t):=by
 intro pins s σ H D I ⟨a,cd,e,q⟩
 obtain⟨ob,I1,nf⟩:=I.freezeC e
 refine thn (h pins s σ _ _ I1 (q ob)) fun f s' hf=>?_
 cases f with
 | next=>obtain⟨σ',H',I',e',q'⟩:=hf; exact⟨σ',_,I'.thawC e' nf,q'⟩
 | brk=>obtain⟨_,_,_,z⟩:=hf; exact z.elim
 | cont=>obtain⟨_,_,_,z⟩:=hf; exact z.elim
 | ret u=>obtain⟨_,_,_,_,_,z⟩:=hf; exact z.elim
def Itv (P:Program) (w:World) (a:Addr) (ob:Obj) (cd:CD):It:=
 ⟨fun i H=>H a=some (.frz ob (bu P w a cd))∧i<cd.length,fun i H x H'=>H'=H∧∃ c,cd[i]? = some c∧x=c.2.2,fun i H=>H a=some (.frz ob (bu P w a cd))∧cd.length=i⟩
theorem mz {a:Addr} {ob:Obj} {cd:CD} {es:Array DictEntry} {ep:Nat} (I:Inv X pins σ H s) (e:H a=some (.frz ob (bu X.prog X.w a cd))) (hd:ob.data=.dict es ep):Raw s.heap a es ep∧es.size=cd.length∧∀ i (h:i<es.size),∃ c,cd[i]? = some c∧aM c.2.2 es[i].val:=by
 obtain⟨g,⟨z,y,nd,xs,ep',r,o,g',ex,d⟩,_⟩:=I.hok a _ e
 rw [g] at g'; cases g'
 rw [hd] at d; cases d
 have l:=r.length
 refine⟨⟨ob,g,ex,hd⟩,by simp [l],fun i h=>?_⟩
 have hx:i<xs.length:=by simpa using h
 have hc:i<cd.length:=by omega
 refine⟨cd[i],by simp [hc],?_⟩
 have:=dB r (i:=i) (x:=cd[i]) (y:=xs[i]) (by simp [hc]) (by simp [hx])
 rw [List.getElem_toArray,List.getElem_map]
 exact this.2.2
theorem jI {M:Model} {A:Around} {E:Value→Shared→Prop} {s':Shared} {tg:Expr} {it d:Addr} {i n ep:Nat} {u:Value} {Q:Unit→Shared→Prop} (st:s'.heap.IsValIter it d i n ep) (h:Q () s'):wpAny M A (letOwnedTupleGo tg (.ref it) u) Q E s':=by
 obtain⟨o,ho,hc,hd⟩:=st
 exact mx ho hc hd (by decide) h
theorem pS {P:Program} {w:World} {K:PySem.W.Frag} {tg:Expr} (a it:Addr) (ob:Obj) (cd:CD) {es:Array DictEntry} {ep:Nat} (hd:ob.data=.dict es ep):kY P w K tg (Itv P w a ob cd) [it] it (fun i h=>h.IsValIter it a i es.size ep) where
 mem:=by simp
 obj:=fun i h st b hb=>by
  have e:b=it:=by simpa using hb
  subst e
  obtain⟨o,e,c,d⟩:=st
  exact⟨o,e,fun v z=>by rw [d] at z; cases z⟩
 keep:=fun i h h' st k=>st.at fun o e=>k it (by simp) o e
 item:=by
  intro X hP hw hK hc i pins s σ H E I hf st hg
  subst hP hw hK
  obtain⟨hq,hi⟩:=hg
  obtain⟨raw,hz,hr⟩:=mz I hq hd
  obtain⟨f0,f1,f2,f3,f4,f5⟩:=hf it (by simp)
  have hi':i<es.size:=by omega
  refine p9 st raw hi' fun h' st' sb=>?_
  have I1:Inv X pins σ H {s with heap:=h'}:=I.turned (t':=s.toks) (fun b o hb e=>(sb.2 b hb).trans e) f0 f1 f3 f4 f5
  obtain⟨kv,e1,e2⟩:=hr i hi'
  exact⟨_,rfl,jI (s':={s with heap:=h'}) st' ⟨kv.2.2,H,I1,e2,⟨rfl,kv,e1,rfl⟩,st',fun b hb=>(hf b hb).1⟩⟩
 done:=by
  intro X hP hw hK hc i pins s σ H E I hf st hg
  subst hP hw hK
  obtain⟨hq,hi⟩:=hg
  obtain⟨raw,hz,hr⟩:=mz I hq hd
  obtain⟨f0,f1,f2,f3,f4,f5⟩:=hf it (by simp)
  have hi':i=es.size:=by omega
  subst hi'
  exact rG (I.ok.hd hc) st raw fun h' eb=>⟨rfl,I.turned (t':=s.toks) (fun b o hb e=>eb b o hb e) f0 f1 f3 f4 f5⟩
 self:=fun _ _ _ _ _ st h=>wpAny_pyIter_valiter st h
inductive iValsI (P:Program) (w:World) (R:It→Hp→Prop) (x:V) (H1:Hp):Prop where
 | mk (a:Addr) (ob:Obj) (cd:CD):x=.ref a→H1 a=some (.frz ob (bu P w a cd))→R (Itv P w a ob cd) H1→iValsI P w R x H1
def yp (P:Program) (w:World) (tl:TE):TI:=fun σ H R=>tl σ H fun x H1=>iValsI P w R x H1
theorem uM {tg l:Expr} {tl:TE} {apos cpos:Pos} (hl:PE X l tl) (hbase:attributeBase l "values" X.env (eval l X.env)=eval l X.env:=by rfl) (hline:(apos.endLine==cpos.line)=true:=by rfl):PI X tg (.Call (.Attribute l "values" apos) [] [] cpos) (yp X.prog X.w tl):=by
 intro pins s σ H R I h
 refine wpAny_Call_method0_late hbase hline (thn (hl pins s σ H _ I h) fun v s1 ⟨x,H1,I1,r1,q1⟩=>?_)
 obtain⟨a,ob,cd,e,hq,q⟩:=q1
 subst e
 cases r1
 obtain⟨g,⟨z,y,nd,xs,ep,r,o,g',ex,d⟩,_⟩:=I1.hok a _ hq
 rw [g] at g'; cases g'
 refine⟨"dict","dict.values",F.plainAttrs_dict,F.slot_dict_values,F.type_dict_values,⟨_,g,ex.1⟩,fun a' e'=>?_,Calls.callWith_builtin rfl (PySem.evalArgs_none (nz y ⟨_,g,ex,d⟩ ?_))⟩
 ·cases e'; exact⟨_,g,ex.2.1⟩
 have kp:∀ b o,s1.heap.get? b=some o→(s1.heap.push {cls:=.type "dict_values",data:=.fields #[.ref a]}).get? b=some o:=fun b o e=>Heap.get?_push_of_some _ e
 have I2:Inv X pins σ H1 {s1 with heap:=s1.heap.push {cls:=.type "dict_values",data:=.fields #[.ref a]}}:=I1.kept (t':=s1.toks) kp
 have hv:(s1.heap.push {cls:=.type "dict_values",data:=.fields #[.ref a]}).IsValuesView s1.heap.objs.size a:=⟨_,Heap.get?_push_size _ rfl,rfl,rfl⟩
 generalize s1.heap.push {cls:=.type "dict_values",data:=.fields #[.ref a]}=h2 at kp I2 hv
 refine p7 (s:={s1 with heap:=h2}) hv ⟨_,kp _ _ g,ex,d⟩ ?_
 refine⟨h2.objs.size,[h2.objs.size],_,_,H1,rfl,I2.kept (s:={s1 with heap:=h2}) (t':=s1.toks) fun b o e=>Heap.get?_push_of_some _ e,pS a _ ob cd d,⟨_,Heap.get?_push_size _ rfl,rfl,rfl⟩,fun b hb=>?_,q⟩
 have e:b=h2.objs.size:=by simpa using hb
 subst e
 exact I2.fpOk (Nat.le_refl _) (I2.hok.fresh (Nat.le_refl _))
end
theorem em.get {H:Hp}:∀ {xs:List V} {ds:List PyData} {j:Nat} {x:V},em H xs ds→xs[j]? = some x→∃ d,ds[j]? = some d∧jB H x d
 | _,_,0,_,.cons a _,e=>by cases e; exact⟨_,rfl,a⟩
 | _,_,j+1,_,.cons _ r,e=>em.get (j:=j) r e
 | _,_,_,_,.nil,e=>by cases e
theorem em.len {H:Hp}:∀ {xs:List V} {ds:List PyData},em H xs ds→xs.length=ds.length
 | _,_,.nil=>rfl
 | _,_,.cons _ r=>congrArg Nat.succ r.len
inductive rAlikeI (v:V) (x y:V) (H:Hp) (Q:VK):Prop where
 | mk:∀ a b xs ys ds,x=.ref a→y=.ref b→H a=some (.lst xs)→H b=some (.lst ys)→em H xs ds→em H ys ds→PyData.canLayAll0 ds=true→(∀ d∈ds,d.depth≤8)→Q v H→rAlikeI v x y H Q
section
variable {X:Cx}
theorem we {H:Hp} {s:Shared} {xs ys:List V} {ds:List PyData} {its jts:List Value} {A:Around} (ok:HOk X.prog X.w H s.heap) (hx:em H xs ds) (hy:em H ys ds) (hc:PyData.canLayAll0 ds=true) (hd:∀ d∈ds,d.depth≤8) (hu:A.units+8<cLine) (r1:aI xs its) (r2:aI ys jts)
  (j:Nat) (h1:j<its.toArray.size) (h2:j<jts.toArray.size):SeqAt.EqAt A s its.toArray[j] jts.toArray[j] true:=by
 have l1:j<xs.length:=by rw [r1.length]; simpa using h1
 have l2:j<ys.length:=by rw [r2.length]; simpa using h2
 obtain⟨d,e1,q1⟩:=hx.get (List.getElem?_eq_getElem l1)
 obtain⟨d',e2,q2⟩:=hy.get (List.getElem?_eq_getElem l2)
 obtain rfl:d=d':=Option.some.inj (e1.symm.trans e2)
 obtain⟨u,eu,ru⟩:=r1.get (List.getElem?_eq_getElem l1)
 obtain⟨u',eu',ru'⟩:=r2.get (List.getElem?_eq_getElem l2)
 obtain⟨as,ra⟩:=q1.reads ok ru
 obtain⟨bs,rb⟩:=q2.reads ok ru'
 have c:=PyData.canLay0_of_mem ds d hc (List.mem_of_getElem? e1)
 have z:=SeqAt.eqAt_reads d d A s u u' as bs ra rb c c (by have:=hd d (List.mem_of_getElem? e1); omega)
 rw [SeqAt.eqv_refl d c] at z
 have g1:its.toArray[j]=u:=by simpa using (List.getElem?_eq_some_iff.mp eu).2
 have g2:jts.toArray[j]=u':=by simpa using (List.getElem?_eq_some_iff.mp eu').2
 rw [g1,g2]
 exact z
theorem rW (hu:X.A.units+64<cLine):OpR X (compareOp .NotEq) (fun x y H Q=>rAlikeI (.bl false) x y H Q):=by
 intro pins s σ H x y v u Q I rx ry h
 obtain⟨a,b,xs,ys,ds,rfl,rfl,ha,hb,dx,dy,hc,hd,q⟩:=h
 cases rx
 cases ry
 obtain⟨its,r1,p1,_⟩:=I.list (SqL.of ha)
 obtain⟨jts,r2,p2,_⟩:=I.list (SqL.of hb)
 refine SeqAt.RcNeAt.lists (e:=fun _=>true) p1.isList p2.isList (by simp [← r1.length,← r2.length,dx.len,dy.len]) (Nat.lt_of_le_of_lt (Nat.le_add_right _ 64) hu) (fun j h1 h2=>we I.hok dx dy hc hd ?_ r1 r2 j h1 h2) X.prog X.w X.xe _ ⟨.bl false,H,I.tok _,?_,q⟩
 ·show X.A.units+1+8<cLine; omega
 ·show Value.bool _=Value.bool false
  congr 1
  simp
theorem rY (hu:X.A.units+64<cLine):OpR X (compareOp .Eq) (fun x y H Q=>rAlikeI (.bl true) x y H Q):=by
 intro pins s σ H x y v u Q I rx ry h
 obtain⟨a,b,xs,ys,ds,rfl,rfl,ha,hb,dx,dy,hc,hd,q⟩:=h
 cases rx
 cases ry
 obtain⟨its,r1,p1,_⟩:=I.list (SqL.of ha)
 obtain⟨jts,r2,p2,_⟩:=I.list (SqL.of hb)
 refine SeqAt.eq_listAt (e:=fun _=>true) p1.isList p2.isList (by simp [← r1.length,← r2.length,dx.len,dy.len]) (Nat.lt_of_le_of_lt (Nat.le_add_right _ 64) hu) (fun j h1 h2=>we I.hok dx dy hc hd ?_ r1 r2 j h1 h2) ⟨.bl true,H,I.tok _,?_,q⟩
 ·show X.A.units+1+8<cLine; omega
 ·show Value.bool _=Value.bool true
  congr 1
  simp
end
end L2
set_option maxHeartbeats 4000000
namespace L2
open PySem PySem.Spec PyProof.Rows
abbrev LC(k:NameKind)(s:Scope)(x:String):Prop:=s.names.lookup (Str.ofString x)=some k
abbrev LN(k:NameKind)(s:Stmt)(x:String):Prop:=(ah s).names.lookup (Str.ofString x)=some k
abbrev LD(x:String):Prop:=((Str.ofString x:Str)==("__debug__":Str))=false
abbrev LS(x:String):Prop:=((Str.ofString x:Str)==("__classdict__":Str))=false
abbrev LM(x:String):Prop:=(Str.ofString x:Str)≠"__name__"
end L2
namespace Few
open PySem L2
def top (i:Nat):Stmt:=PySem.Challenge.pw_fewthings_k31_sizes_and_fillings.main.body.getD i (.Pass ⟨0,0,0,0⟩)
structure Bl (mg:Str→Option Value):Prop where
 n_len:mg "len"=none
 n_max:mg "max"=none
 n_abs:mg "abs"=none
 n_divmod:mg "divmod"=none
 n_list:mg "list"=none
 n_tuple:mg "tuple"=none
 n_range:mg "range"=none
 n_int:mg "int"=none
 n_str:mg "str"=none
 n_repr:mg "repr"=none
 n_isinstance:mg "isinstance"=none
 n_all:mg "all"=none
 n_set:mg "set"=none
theorem j4 {α β:Type} (f:α→β):∀ (l:List α) (i:Nat),(l.map f).eraseIdx i=(l.eraseIdx i).map f
 | [],_=>rfl
 | _::_,0=>rfl
 | x::r,i+1=>by
  show f x::(r.map f).eraseIdx i=f x::(r.eraseIdx i).map f
  rw [j4 f r i]
theorem gg {α:Type}:∀ (l:List α) (i:Nat) (h:i<l.length),(l[i]::l.eraseIdx i).Perm l
 | x::r,0,_=>List.Perm.refl _
 | x::r,i+1,h=>by
  show (r[i]'(by simpa using h)::x::r.eraseIdx i).Perm (x::r)
  exact(List.Perm.swap _ _ _).trans (List.Perm.cons x (gg r i (by simpa using h)))
theorem zba:LD "_law_cell_here":=by decide +kernel
theorem zbb:LS "_law_cell_here":=by decide +kernel
theorem zbc:LD "_law_digit":=by decide +kernel
theorem zbd:LS "_law_digit":=by decide +kernel
theorem zbe:LD "_law_draw":=by decide +kernel
theorem zbf:LD "_law_left":=by decide +kernel
theorem zbg:LS "_law_left":=by decide +kernel
theorem zbh:LD "_law_many_here":=by decide +kernel
theorem zbi:LS "_law_many_here":=by decide +kernel
theorem zbj:LD "_law_menu":=by decide +kernel
theorem zbk:LS "_law_menu":=by decide +kernel
theorem zbl:LD "_law_pot_here":=by decide +kernel
theorem zbm:LS "_law_pot_here":=by decide +kernel
theorem zbn:LD "abs":=by decide +kernel
theorem zbo:LM "abs":=by decide +kernel
theorem zbp:LD "divmod":=by decide +kernel
theorem zbq:LM "divmod":=by decide +kernel
theorem zbr:LD "len":=by decide +kernel
theorem zbs:LM "len":=by decide +kernel
theorem zbt:LD "list":=by decide +kernel
theorem zbu:LM "list":=by decide +kernel
theorem zbv:LD "max":=by decide +kernel
theorem zbw:LM "max":=by decide +kernel
section
variable {P:Program} {w:World} {K:PySem.W.Frag} {mg:Str→Option Value} {base:Heap}
def cW (H:Hp) (p:Addr):Prop:=∃ a b c:Int,H p=some (.lst [.int a,.int b,.int c])∧0≤a∧0≤b∧b<4294967296
def vN:Sp:=fun vs H Q _=>∃ n:Int,vs=[.int n]∧∀ p H',H p=none→cW H' p→av H H'→Q (.ref p) H'
abbrev dX:Stmt:=top 43
theorem zbx:aB ["_law_cell_here"] ["_law_cell_here"] (ah dX):=⟨rfl,rfl,rfl,by decide +kernel,rfl,by decide +kernel,by decide +kernel⟩
theorem zby:LN .local dX "_law_cell_here":=by decide +kernel
theorem zbz:LN .globalImplicit dX "abs":=by decide +kernel
theorem zb0:LN .globalImplicit dX "max":=by decide +kernel
theorem wP (F:aL K mg "_law_pot" dX ["_law_cell_here"]) (Z:Bl mg):Def P w K mg base "_law_pot" 1 ["_law_cell_here"] vN:=by
 have SC:=zbx
 refine F.mk' (k:=0) zbx (fun vs H Q E h=>?_) (fun f cdv A outer s H vs Q E hr h=>?_)
 ·obtain⟨n,rfl,_⟩:=h
  rfl
 ·obtain⟨n,rfl,q⟩:=h
  refine'⟨_,?derivation,?_⟩
  case derivation=>refine' am ?Aa;case Aa=>refine' aO ?Ba;case Ba=>refine' aU ?Ca;case Ca=>refine' aa ?Da ?Ea ?Fa;(case Da=>refine' aD (hn:=zbw) (hdb:=zbv) (qL rfl) zb0 Z.n_max xc ?Ga rfl rfl;case Ga=>refine' aa ?Ha ?Ia ?Ja;(case Ha=>exact aq);(case Ia=>refine' aa ?Ka ae ?La;(case Ka=>refine' bW wL ?Ma ?Na;(case Ma=>refine' aD (hn:=zbo) (hdb:=zbn) mU zbz Z.n_abs t6 ?Oa rfl rfl;case Oa=>refine' aa (pq 0 (ap zby) zba zbb) ae ?Pa;case Pa=>rfl);case Na=>refine' bW rS ?Qa ?Ra;(case Qa=>exact aq);case Ra=>exact aq);case La=>rfl);case Ja=>rfl);(case Ea=>refine' aa ?Sa ?Ta ?Ua;(case Sa=>refine' bW gi ?Va ?Wa;(case Va=>refine' bW kJ ?Xa ?Ya;(case Xa=>refine' aD (hn:=zbo) (hdb:=zbn) mU zbz Z.n_abs t6 ?Za rfl rfl;case Za=>refine' aa (pq 0 (ap zby) zba zbb) ae ?Ab;case Ab=>rfl);case Ya=>exact aq);case Wa=>exact aq);(case Ta=>refine' aa ?Bb ae ?Cb;(case Bb=>exact aq);case Cb=>rfl);case Ua=>rfl);case Fa=>rfl
  refine⟨_,rfl,_,rfl,_,_,rfl,rfl,⟨by decide,by decide,by decide⟩,_,_,rfl,rfl,_,_,rfl,?_⟩
  refine⟨_,rfl,_,rfl,_,_,rfl,rfl,(by show (0:Int)<2147483629; decide),_,_,rfl,rfl,(by show 3≤sizeLine; decide),fun p hp=>?_⟩
  refine q p _ hp ⟨_,_,_,ac,?_,?_,?_⟩ (af hp _)
  ·split <;> omega
  ·have:=Int.emod_nonneg (if n<0 then -n else n) (b:=2147483629) (by decide)
   omega
  ·have:=Int.emod_lt_of_pos (if n<0 then -n else n) (b:=2147483629) (by decide)
   omega
def kj:Sp:=fun vs H Q _=>∃ (p:Addr) (m:Int),vs=[.ref p,.int m]∧cW H p∧0<m∧m<1000∧∀ (r:Int) H',0≤r→r<m→cW H' p→ay p H H'→Q (.int r) H'
abbrev cM:Stmt:=top 44
theorem zb1:aB ["_law_pot_here","_law_many_here","_law_digit"] ["_law_pot_here","_law_many_here"] (ah cM):=⟨rfl,rfl,rfl,by decide +kernel,rfl,by decide +kernel,by decide +kernel⟩
theorem zb2:LN .local cM "_law_digit":=by decide +kernel
theorem zb3:LN .local cM "_law_many_here":=by decide +kernel
theorem zb4:LN .local cM "_law_pot_here":=by decide +kernel
theorem zb5:LN .globalImplicit cM "divmod":=by decide +kernel
theorem uW (F:aL K mg "_law_draw" cM ["_law_pot_here","_law_many_here"]) (Z:Bl mg):Def P w K mg base "_law_draw" 1 ["_law_pot_here","_law_many_here"] kj:=by
 have SC:=zb1
 refine F.mk' (k:=0) zb1 (fun vs H Q E h=>?_) (fun f cdv A outer s H vs Q E hr h=>?_)
 ·obtain⟨p,m,rfl,_⟩:=h
  rfl
 ·obtain⟨p,m,rfl,⟨a,b,c,hp,ha,hb,hb2⟩,hm,hm2,q⟩:=h
  refine'⟨_,?derivation,?_⟩
  case derivation=>refine' ak ?Aa ?Ba;(case Aa=>refine' cy ?Ca ?Da bq;(case Ca=>refine' bO rX ?Ea ?Fa (ck _);(case Ea=>refine' cb cI (pq 0 (ap zb4) zbl zbm) ?Ga ?Ha;(case Ga=>exact aq);case Ha=>intro _ _;exact rfl);case Fa=>exact aq);case Da=>refine' ak ?Ia ?Ja;(case Ia=>refine' kz ?Ka ?La ?Ma ?Na ?Oa;(case Ka=>refine' aD (hn:=zbq) (hdb:=zbp) mT zb5 Z.n_divmod qP ?Pa rfl rfl;case Pa=>refine' aa ?Qa ?Ra ?Sa;(case Qa=>refine' cb cI (pq 0 (ap zb4) zbl zbm) ?Ta ?Ua;(case Ta=>exact aq);case Ua=>intro _ _;exact rfl);(case Ra=>refine' aa (pq 1 (ap zb3) zbh zbi) ae ?Va;case Va=>rfl);case Sa=>rfl);(case La=>refine' ja rfl ?Wa rfl rfl;case Wa=>refine' bE ?Xa ?Ya ?Za;(case Xa=>refine' rL (pq 0 (ap zb4) zbl zbm) ?Ab lK ?Bb;(case Ab=>exact aq);case Bb=>intro _; rfl);(case Ya=>refine' bE ?Cb eK ?Db;(case Cb=>refine' au (i:=2) (x:=Str.ofString "_law_digit") SC.nd rfl (Or.inl zb2) (.inl rfl));case Db=>rfl);case Za=>rfl);(case Ma=>rfl);(case Na=>rfl);case Oa=>rfl);case Ja=>refine' am ?Eb;case Eb=>refine' aO (pq 2 (ap zb2) zbc zbd));case Ba=>refine' ak ?Fb ?Gb;(case Fb=>refine' kz ?Hb ?Ib ?Jb ?Kb ?Lb;(case Hb=>refine' bW kJ ?Mb ?Nb;(case Mb=>refine' bW gi ?Ob ?Pb;(case Ob=>refine' bW nQ ?Qb ?Rb;(case Qb=>refine' cb cI (pq 0 (ap zb4) zbl zbm) ?Sb ?Tb;(case Sb=>exact aq);case Tb=>intro _ _;exact rfl);case Rb=>exact aq);case Pb=>exact aq);case Nb=>exact aq);(case Ib=>refine' rL (pq 0 (ap zb4) zbl zbm) ?Ub lK ?Vb;(case Ub=>exact aq);case Vb=>intro _; rfl);(case Jb=>rfl);(case Kb=>rfl);case Lb=>rfl);case Gb=>refine' am ?Wb;case Wb=>refine' aO ?Xb;case Xb=>refine' bW kJ ?Yb (pq 1 (ap zb3) zbh zbi);case Yb=>refine' bW uP ?Zb ?Ac;(case Zb=>refine' bW kJ ?Bc ?Cc;(case Bc=>refine' bW nQ ?Dc ?Ec;(case Dc=>refine' cb cI (pq 0 (ap zb4) zbl zbm) ?Fc ?Gc;(case Fc=>exact aq);case Gc=>intro _ _;exact rfl);case Ec=>refine' cb cI (pq 0 (ap zb4) zbl zbm) ?Hc ?Ic;(case Hc=>exact aq);case Ic=>intro _ _;exact rfl);case Cc=>exact aq);case Ac=>exact aq
  refine⟨_,rfl,p,_,_,_,rfl,rfl,SqL.of hp,rfl,_,_,rfl,rfl,_,rfl,?_⟩
  refine sV (fun hc=>?_) (fun hc=>?_)
  ·refine⟨_,rfl,p,_,_,_,rfl,rfl,SqL.of hp,rfl,_,rfl,_,_,rfl,⟨hm,by omega⟩,fun t ht=>?_⟩
   have npt:p≠t:=al hp ht
   refine⟨t,_,rfl,SqT.of ac,rfl,_,_,rfl,_,rfl,p,_,_,_,rfl,rfl,(by rw [ag npt]; exact hp),rfl,_,_,rfl,⟨rfl,_,rfl,?_⟩⟩
   refine q _ _ (Int.emod_nonneg _ (by omega)) (Int.emod_lt_of_pos _ hm) ⟨_,_,_,ac,Int.ediv_nonneg ha (by omega),hb,hb2⟩ (fun b o n e=>?_)
   rw [ag n,ag (al e ht)]; exact e
  ·refine⟨_,rfl,p,_,_,_,rfl,rfl,SqL.of hp,rfl,_,_,rfl,rfl,.inr ⟨by decide,by decide⟩,_,_,rfl,rfl,_,_,rfl,rfl,(by show (0:Int)<2147483647; decide),?_⟩
   have g0:0≤(b*48271+11) % 2147483647:=Int.emod_nonneg _ (by decide)
   have g1:(b*48271+11) % 2147483647<2147483647:=Int.emod_lt_of_pos _ (by decide)
   refine⟨_,rfl,p,_,_,_,rfl,rfl,hp,rfl,?_⟩
   refine⟨_,rfl,p,_,_,_,rfl,rfl,SqL.of ac,rfl,_,rfl,p,_,_,_,rfl,rfl,SqL.of ac,rfl,_,_,rfl,rfl,.inl ⟨by omega,by omega⟩,_,_,rfl,rfl,(by show (0:Int)<2147483629; decide),_,_,rfl,rfl,⟨by decide,by decide⟩,_,rfl,_,_,rfl,rfl,hm,?_⟩
   refine q _ _ (Int.emod_nonneg _ (by omega)) (Int.emod_lt_of_pos _ hm) ⟨_,_,_,ac,ha,g0,by omega⟩ (fun b o n e=>?_)
   rw [ag n]; exact e
structure cD (p:Addr) (H H':Hp):Prop where
 pot:cW H' p
 same:ay p H H'
theorem cW.keep {H H':Hp} {p:Addr} (h:cW H p) (s:av H H'):cW H' p:=let ⟨a,b,c,e,r⟩:=h; ⟨a,b,c,s _ _ e,r⟩
theorem cW.some {H:Hp} {p:Addr} (h:cW H p):∃ o,H p=some o:=let ⟨_,_,_,e,_⟩:=h; ⟨_,e⟩
def lE:Sp:=fun vs H Q _=>∃ (p a:Addr) (m:Nat) (xs:List Str),vs=[.ref p,.int m,.ref a]∧cW H p∧SqL K H a (xs.map V.str)∧m≤xs.length∧xs.length<100∧xs.Nodup∧
 ∀ l (ys:List Str) H',H l=none→H' l=some (.lst (ys.map V.str))→ys.length=m→ys.Nodup→(∀ y∈ys,y∈xs)→cD p H H'→Q (.ref l) H'
abbrev bH:Stmt:=top 45
theorem zb6:aB ["_law_pot_here","_law_many_here","_law_menu","_law_left"] ["_law_pot_here","_law_many_here","_law_menu"] (ah bH):=⟨rfl,rfl,rfl,by decide +kernel,rfl,by decide +kernel,by decide +kernel⟩
theorem zb7:LN .cell bH "_law_left":=by decide +kernel
theorem zb8:LN .local bH "_law_many_here":=by decide +kernel
theorem zb9:LN .local bH "_law_menu":=by decide +kernel
theorem zca:LN .globalImplicit bH "list":=by decide +kernel
theorem zcb:LN .globalImplicit bH "range":=by decide +kernel
abbrev QS0:Scope:={kind:=PySem.ScopeKind.function,names:=[ (PySem.Str.ofString ".0",PySem.NameKind.local),(PySem.Str.ofString "_law_k",PySem.NameKind.local),(PySem.Str.ofString "_law_draw",PySem.NameKind.globalImplicit),(PySem.Str.ofString "len",PySem.NameKind.globalImplicit),(PySem.Str.ofString "_law_left",PySem.NameKind.free),(PySem.Str.ofString "_law_pot_here",PySem.NameKind.free)],isGenerator:=false,isCoroutine:=false,more:=[]:PySem.Scope}
theorem zcc:cw 1 ["_law_k","_law_pot_here","_law_many_here","_law_menu","_law_left"] ["_law_pot_here","_law_many_here","_law_menu","_law_left"] (ah bH) QS0:=⟨rfl,by decide +kernel,by decide +kernel,by decide +kernel,by decide +kernel,rfl,by decide +kernel⟩
theorem zcd:LC .globalImplicit QS0 "_law_draw":=by decide +kernel
theorem zce:LC .local QS0 "_law_k":=by decide +kernel
theorem zcf:LC .free QS0 "_law_left":=by decide +kernel
theorem zcg:LC .free QS0 "_law_pot_here":=by decide +kernel
theorem zch:LC .globalImplicit QS0 "len":=by decide +kernel
theorem qg (F:aL K mg "_law_unlike" bH ["_law_pot_here","_law_many_here","_law_menu"]) (Z:Bl mg) (D_law_draw:Def P w K mg base "_law_draw" 1 ["_law_pot_here","_law_many_here"] kj):Def P w K mg base "_law_unlike" 2 ["_law_pot_here","_law_many_here","_law_menu"] (lE (K:=K)):=by
 have SC:=zb6
 refine F.mk' (k:=1) zb6 (fun vs H Q E h=>?_) (fun f cdv A outer s H vs Q E hr h=>?_)
 ·obtain⟨p,a,m,xs,rfl,_⟩:=h
  rfl
 ·obtain⟨p,a,m,xs,rfl,hp,ha,hm,hx,hn,q⟩:=h
  refine'⟨_,?derivation,?_⟩
  case derivation=>refine' ak ?Aa ?Ba;(case Aa=>refine' bc (i:=3) (x:=Str.ofString "_law_left") ?Ca ?Da ?Ea ?Fa ?Ga ?Ha;(case Ca=>exact SC.nd);(case Da=>exact rfl);(case Ea=>exact(Or.inr zb7));(case Fa=>refine' bR (hn:=zbu) (hdb:=zbt) ?Ia zca Z.n_list ei ?Ja rfl rfl;(case Ia=>exact dW);case Ja=>refine' aa (pq 2 (ap zb9) zbj zbk) ae ?Ka;case Ka=>rfl);(case Ga=>rfl);case Ha=>exact .inl rfl);case Ba=>refine' am ?La;case La=>refine' aO ?Ma;case Ma=>refine' dF gF rfl zcc.at ?Na ?Oa ?Pa ?Qa;(case Na=>refine' eF zcb Z.n_range ?Ra rfl;case Ra=>refine' aa (pq 1 (ap zb8) zbh zbi) ae ?Sa;case Sa=>rfl);(case Oa=>intro _ _ _ _ _;refine' au (i:=0) zcc.nd rfl (eL zce) (.inr (lookup_relabel_local zce)));(case Pa=>intro _ _ _ _ _;refine' jb PySem.F.plainAttrs_list PySem.F.slot_list_pop PySem.F.type_list_pop sy (pq 4 (eZ zcf) zbf zbg) ?Ta rfl rfl rfl rfl rfl;case Ta=>refine' aa ?Ua ae ?Va;(case Ua=>refine' aJ (hdb:=zbe) D_law_draw (hr.mono (by decide)) (glO zcd) ?Wa rfl rfl;case Wa=>refine' aa (pq 1 (eZ zcg) zbl zbm) ?Xa ?Ya;(case Xa=>refine' aa ?Za ae ?Ab;(case Za=>refine' aD (hn:=zbs) (hdb:=zbr) aV (glO zch) Z.n_len cC ?Bb rfl rfl;case Bb=>refine' aa (pq 4 (eZ zcf) zbf zbg) ae ?Cb;case Cb=>rfl);case Ab=>rfl);case Ya=>rfl);case Va=>rfl);case Qa=>intro _; rfl
  refine⟨_,rfl,a,_,rfl,.inl ha,fun L hL=>?_⟩
  refine⟨_,rfl,m,rfl,by omega,by omega,?_⟩
  intro cl C ex s0 H0
  have hpL:p≠L:=by obtain⟨o,e⟩:=hp.some; exact al e hL
  refine df m (fun i ys H1=>∃ zs ws:List Str,H1 L=some (.lst (zs.map V.str))∧zs.length+i=xs.length∧ys=ws.map V.str∧(ws++zs).Nodup∧(∀ y∈ws++zs,y∈xs)∧cD p H H1) (fun _ _=>True)
   ⟨xs,[],ac,rfl,rfl,hn,fun y hy=>hy,hp.keep (af hL _),(af hL _).x⟩ (Nat.le_trans (Nat.le_trans hm (by omega)) (show 100≤sizeLine by decide)) (fun i ys H1 hi _ _=>⟨hi,fun x H' y=>⟨y.1,trivial⟩⟩) (fun _ _ _ _=>Nat.le_refl _) ?_ ?_
  ·rintro i x ys H1 hi _ hy ⟨zs,ws,hzL,hzl,rfl,hnd,hsub,W⟩
   refine⟨_,rfl,.inl ⟨rfl,_,SqL.of hzL⟩,_,rfl,_,rfl,L,_,rfl,.inl (SqL.of hzL),p,_,rfl,W.pot,?_,?_,fun r H2 h0 h1 hp2 s2=>?_⟩
   ·rw [List.length_map]; omega
   ·rw [List.length_map]; omega
   ·rw [List.length_map] at h1
    have hr':r.toNat<zs.length:=by omega
    have hzL2:H2 L=some (.lst (zs.map V.str)):=s2 L _ (Ne.symm hpL) hzL
    refine⟨L,_,r,r.toNat,V.str zs[r.toNat],rfl,rfl,hzL2,by omega,by omega,xP h0 (by rw [List.length_map]; omega),by simp [hr'],?_⟩
    refine⟨zs.eraseIdx r.toNat,ws++[zs[r.toNat]],?_,?_,by simp,?_,?_,?_,?_⟩
    ·rw [ac,j4]
    ·rw [List.length_eraseIdx_of_lt hr']; omega
    ·have pm:(zs[r.toNat]::zs.eraseIdx r.toNat).Perm zs:=gg zs _ hr'
     have pm2:(ws++[zs[r.toNat]]++zs.eraseIdx r.toNat).Perm (ws++zs):=by
      rw [List.append_assoc]
      exact List.Perm.append_left ws pm
     exact(List.Perm.nodup_iff pm2).mpr hnd
    ·intro y hy
     refine hsub y ?_
     have pm:(zs[r.toNat]::zs.eraseIdx r.toNat).Perm zs:=gg zs _ hr'
     have pm2:(ws++[zs[r.toNat]]++zs.eraseIdx r.toNat).Perm (ws++zs):=by
      rw [List.append_assoc]
      exact List.Perm.append_left ws pm
     exact(List.Perm.mem_iff pm2).mp hy
    ·obtain⟨a',b',c',e,r'⟩:=hp2
     exact⟨a',b',c',by rw [ag hpL]; exact e,r'⟩
    ·intro b o n e
     rw [ag (al e hL)]
     exact s2 b o n (W.same b o n e)
  ·rintro ys H1 hy ⟨zs,ws,hzL,hzl,rfl,hnd,hsub,W⟩ D hD
   have hpD:p≠D:=by obtain⟨o,e⟩:=W.pot.some; exact al e hD
   refine q D ws _ (W.same.free (Ne.symm hpD) hD) ac (by simpa using hy) (List.nodup_append.mp hnd).1 (fun y hy=>hsub y (List.mem_append_left _ hy)) ⟨W.pot.keep (af hD _),W.same.same (af hD _)⟩
end
end Few
set_option maxHeartbeats 1000000
namespace Few
open PySem L2
def iF (z:Str):Prop:=1≤z.cps.toList.length∧z.cps.toList.length≤12∧∀ c∈z.cps.toList,97≤c∧c≤122
def sayWords:List Str:=["all","some","not","and","or"]
def kN (z:Str):Prop:=iF z∧¬ z∈sayWords
theorem uu (z:Str):z.length=z.cps.toList.length:=by show z.cps.size=_; simp
def abc:Str:=Str.ofString "abcdefghijklmnopqrstuvwxyz"
theorem jl (z:Str):∀ ws:List Str,inV (V.str z) (ws.map V.str)=decide (z∈ws)
 | []=>rfl
 | x::r=>by
  have ih:=jl z r
  have e:inV (V.str z) ((x::r).map V.str)=(eqV (V.str x) (V.str z)||inV (V.str z) (r.map V.str)):=rfl
  rw [e,ih]
  have e2:eqV (V.str x) (V.str z)=decide (x=z):=by
   first
    | rfl
    | (unfold eqV; rw [Bool.beq_eq_decide_eq])
    | (unfold eqV; simp)
  rw [e2]
  by_cases h:x=z
  ·subst h; simp
  ·have h':¬ z=x:=fun e=>h e.symm
   simp [h,h']
section
variable {P:Program} {w:World} {K:PySem.W.Frag} {mg:Str→Option Value} {base:Heap}
theorem cD.trans {p:Addr} {H H1 H2:Hp} (a:cD p H H1) (b:cD p H1 H2):cD p H H2:=⟨b.pot,a.same.trans b.same⟩
theorem cD.mk1 {p:Addr} {H H1 H2:Hp} (a:cD p H H1) (pt:cW H2 p) (s:ay p H1 H2):cD p H H2:=⟨pt,a.same.trans s⟩
theorem cD.new {p:Addr} {H H1:Hp} {l:Addr} (a:cD p H H1) (h:H1 l=none) (o:HO):cD p H (upd H1 l o):=⟨a.pot.keep (af h o),a.same.same (af h o)⟩
theorem cD.put {p:Addr} {H H1:Hp} {l:Addr} (a:cD p H H1) (n:p≠l) (h:H l=none) (o:HO):cD p H (upd H1 l o):=
 ⟨let ⟨x,y,z,e,r⟩:=a.pot; ⟨x,y,z,by rw [ag n]; exact e,r⟩,fun b u nb e=>by rw [ag (al e h)]; exact a.same b u nb e⟩
theorem cD.ne {p l:Addr} {H H1:Hp} (a:cD p H H1) (h:H1 l=none):p≠l:=by obtain⟨o,e⟩:=a.pot.some; exact al e h
theorem cD.free {p l:Addr} {H H1:Hp} (a:cD p H H1) (h:H1 l=none):H l=none:=a.same.free (Ne.symm (a.ne h)) h
theorem cD.refl {p:Addr} {H:Hp} (h:cW H p):cD p H H:=⟨h,ay.refl _ _⟩
theorem cD.at {p l:Addr} {H H1:Hp} {o:HO} (a:cD p H H1) (n:l≠p) (h:H l=some o):H1 l=some o:=a.same l o n h
end
def LT (H:Hp) (a:Addr) (xs:List V):Prop:=H a=some (.lst xs)∨H a=some (.tup xs)
theorem LT.mono {H H':Hp} {a:Addr} {xs:List V} (h:LT H a xs) (k:∀ o,H a=some o→H' a=some o):LT H' a xs:=h.elim (fun e=>.inl (k _ e)) fun e=>.inr (k _ e)
end Few
namespace L2
open PySem PySem.Spec PyProof.Rows
section
variable {X:Cx} {tg:Expr}
theorem PI.or {l:Expr} {wi wi':TI} (h:PI X tg l wi) (h':PI X tg l wi'):PI X tg l (fun σ H R=>wi σ H R∨wi' σ H R):=by
 intro pins s σ H R I q
 rcases q with q | q
 ·exact h pins s σ H R I q
 ·exact h' pins s σ H R I q
def yr (K:PySem.W.Frag) (tl:TE):TI:=fun σ H R=>vW K tl σ H R∨yq K tl σ H R
theorem i9 {l:Expr} {tl:TE} (hl:PE X l tl):PI X tg l (yr X.K tl):=(bn hl).or (kD hl)
theorem qp (K:PySem.W.Frag):PySem.W.kitAny K (.type "list") [.type "list",.type "tuple"]=some true:=rfl
theorem n9 (K:PySem.W.Frag):PySem.W.kitAny K (.type "tuple") [.type "list",.type "tuple"]=some true:=rfl
theorem sR (K:PySem.W.Frag):PySem.W.kitOne K (.type "str") (.type "str")=some true:=rfl
end
end L2
namespace Few
open PySem L2
theorem LT.sq {K:PySem.W.Frag} {H:Hp} {a:Addr} {xs:List V} (h:LT H a xs):SqL K H a xs∨SqT K H a xs:=h.elim (fun e=>.inl (SqL.of e)) fun e=>.inr (SqT.of e)
theorem LT.isi2 {K:PySem.W.Frag} {H:Hp} {p:Addr} {xs:List V} (h:LT H p xs):∃ (t:Value),eY K H (.ref p) t∧PySem.W.kitAny K t [.type "list",.type "tuple"]=Option.some true:=by
 rcases h with h | h
 ·exact⟨_,.lst h,qp K⟩
 ·exact⟨_,.tup h,n9 K⟩
structure ud (H:Hp) (a:Addr) (xs:List V) (J:It):Prop where
 go:∀ i H',(∀ o,H a=Option.some o→H' a=Option.some o)→i<xs.length→J.go i H'∧∀ x H'',J.yld i H' x H''→H''=H'∧xs[i]? = Option.some x
 stop:∀ H',(∀ o,H a=Option.some o→H' a=Option.some o)→J.stop xs.length H'
theorem LT.over {K:PySem.W.Frag} {H:Hp} {a:Addr} {xs:List V} {i:Nat} {σ:St} {R:It→Hp→Prop} (h:LT H a xs) (hv:σ[i]? = Option.some (Option.some (.ref a))) (k:∀ J,ud H a xs J→R J H):yr K (pV i) σ H R:=by
 rcases h with h | h
 ·exact .inl ⟨_,hv,a,rfl,⟨_,SqL.of h⟩,k _ ⟨fun i H' kp hi=>dU (SqL.of (kp _ h)) hi,fun H' kp=>cQ (SqL.of (kp _ h))⟩⟩
 ·exact .inr ⟨_,hv,a,rfl,⟨_,SqT.of h⟩,k _ ⟨fun i H' kp hi=>kR (SqT.of (kp _ h)) hi,fun H' kp=>iT (SqT.of (kp _ h))⟩⟩
theorem ud.loop {J:It} {H0:Hp} {a:Addr} {xs:List V} {g:TG} {tb:TS} {D:jD} {σ:St} {H:Hp} (O:ud H0 a xs J) (Pv:Nat→St→Hp→Prop) (h0:Pv 0 σ H) (hl:∀ i σ H,i≤xs.length→Pv i σ H→∀ o,H0 a=Option.some o→H a=Option.some o)
  (hs:∀ i x σ H,xs[i]? = Option.some x→Pv i σ H→g x σ H fun σ2 H2=>tb {D with nx:=Pv (i+1),ct:=Pv (i+1),bk:=D.nx} σ2 H2) (hd:∀ σ H,Pv xs.length σ H→D.nx σ H) :
  ∃ W:Nat→Nat→St→Hp→Prop,(∃ m,W 0 m σ H)∧∀ i m σ H,W i m σ H→
   (J.stop i H∧D.nx σ H)∨(J.go i H∧∃ N:St→Hp→Prop,(∀ σ' H',N σ' H'→∃ m',m'<m∧W (i+1) m' σ' H')∧∀ x H',J.yld i H x H'→g x σ H' fun σ2 H2=>tb {D with nx:=N,ct:=N,bk:=D.nx} σ2 H2):=by
 refine⟨fun i m σ H=>m=xs.length-i∧i≤xs.length∧Pv i σ H,⟨xs.length,by simp,Nat.zero_le _,h0⟩,?_⟩
 rintro i m σ H ⟨rfl,hi,p⟩
 have q:=hl i σ H hi p
 by_cases hlt:i<xs.length
 ·obtain⟨g1,g2⟩:=O.go i H q hlt
  refine .inr ⟨g1,Pv (i+1),fun σ' H' p'=>⟨xs.length - (i+1),by omega,rfl,hlt,p'⟩,fun x H' y=>?_⟩
  obtain⟨e,y'⟩:=g2 x H' y
  subst e
  exact hs i x σ _ y' p
 ·have e:i=xs.length:=by omega
  subst e
  exact .inl ⟨O.stop H q,hd σ H p⟩
theorem ud.comp {J:It} {H0:Hp} {a:Addr} {xs:List V} {te:TE} {σ:St} {H:Hp} {Q:VK} (O:ud H0 a xs J) (Pv:Nat→List V→Hp→Prop) (h0:Pv 0 [] H) (hz:xs.length≤sizeLine) (hl:∀ i ys H,i≤xs.length→Pv i ys H→∀ o,H0 a=Option.some o→H a=Option.some o)
  (hs:∀ i x ys H,xs[i]? = Option.some x→ys.length=i→Pv i ys H→te (Option.some x::σ) H fun v H3=>Pv (i+1) (ys++[v]) H3)
  (hd:∀ ys H,ys.length=xs.length→Pv xs.length ys H→∀ D,H D=none→Q (.ref D) (upd H D (.lst ys))):jE 1 J (dQ 0) te σ H Q:=
 df xs.length Pv (fun i x=>xs[i]? = Option.some x) h0 hz (fun i ys H hi hy p=>O.go i H (hl i ys H (Nat.le_of_lt hi) p) hi) (fun ys H hy p=>O.stop H (hl _ ys H (Nat.le_refl _) p)) (fun i x ys H hi hx hy p=>hs i x ys H hx hy p) hd
theorem ifT {c A B:Prop} [Decidable c] (hc:c) (h:A):if c then A else B:=by rw [if_pos hc]; exact h
theorem ifF {c A B:Prop} [Decidable c] (hc:¬ c) (h:B):if c then A else B:=by rw [if_neg hc]; exact h
theorem LT.same {H H':Hp} {a:Addr} {xs:List V} (h:LT H a xs) (s:av H H'):LT H' a xs:=h.mono fun o e=>s a o e
theorem yo:∀ i,i<26→(!(Builtin.Str.occurrences abc ⟨#[97+i]⟩ 0 abc.length 1).isEmpty)=true:=by decide +kernel
theorem wV {c:Nat} (h0:97≤c) (h1:c≤122):(!(Builtin.Str.occurrences abc ⟨#[c]⟩ 0 abc.length 1).isEmpty)=true:=by
 have:=yo (c-97) (by omega)
 rwa [show 97+(c-97)=c by omega] at this
structure Gs (K:PySem.W.Frag) (mg:Str→Option Value):Prop where
 letters:∃ u,mg "LETTERS"=some u∧aM (.str abc) u
 longest:∃ u,mg "LONGEST_NAME"=some u∧aM (.int 12) u
 mkinds:∃ u,mg "MOST_KINDS"=some u∧aM (.int 4) u
 msigns:∃ u,mg "MOST_SIGNS"=some u∧aM (.int 8) u
 mplaces:∃ u,mg "MOST_PLACES"=some u∧aM (.int 2) u
 words:∃ a,mg "WORDS_OF_SAYINGS"=some (.ref a)∧∀ H,SqT K H a (sayWords.map V.str)
theorem ie:∀ ws:List Str,(ws.map V.str).all fE=true
 | []=>rfl
 | x::r=>by
  show (fE (V.str x)&&(r.map V.str).all fE)=true
  rw [ie r]; rfl
theorem yX:¬ (("kept_ties":Str)="kept_kinds"):=by decide +kernel
theorem yZ:¬ (("kept_functions":Str)="kept_kinds"):=by decide +kernel
theorem yY:¬ (("kept_functions":Str)="kept_ties"):=by decide +kernel
def flK (kt:Addr):List (Str×V):=dw "kept_kinds" (.ref kt) []
def flT (kt tt:Addr):List (Str×V):=dw "kept_ties" (.ref tt) (flK kt)
def flF (kt tt ft:Addr):List (Str×V):=dw "kept_functions" (.ref ft) (flT kt tt)
theorem j3 (kt:Addr):(flK kt).lookup ("kept_kinds":Str)=some (.ref kt):=by unfold flK; rw [bf,if_pos rfl]
theorem j2 (kt tt:Addr):(flT kt tt).lookup ("kept_kinds":Str)=some (.ref kt):=by unfold flT; rw [bf,if_neg (fun z=>yX z.symm)]; exact j3 kt
theorem tN (kt tt:Addr):(flT kt tt).lookup ("kept_ties":Str)=some (.ref tt):=by unfold flT; rw [bf,if_pos rfl]
theorem qG (kt tt ft:Addr):(flF kt tt ft).lookup ("kept_kinds":Str)=some (.ref kt):=by unfold flF; rw [bf,if_neg (fun z=>yZ z.symm)]; exact j2 kt tt
theorem mE (kt tt ft:Addr):(flF kt tt ft).lookup ("kept_ties":Str)=some (.ref tt):=by unfold flF; rw [bf,if_neg (fun z=>yY z.symm)]; exact tN kt tt
theorem mF (kt tt ft:Addr):(flF kt tt ft).lookup ("kept_functions":Str)=some (.ref ft):=by unfold flF; rw [bf,if_pos rfl]
theorem vg (kt:Addr):(flK kt).length<1000:=Nat.lt_of_le_of_lt (cV _ _ _) (by decide)
theorem vd (kt tt:Addr):(flT kt tt).length<1000:=by
 have h1:=cV ("kept_ties":Str) (.ref tt) (flK kt)
 have h2:=cV ("kept_kinds":Str) (.ref kt) []
 unfold flT flK at *
 simp only [List.length_nil] at h2
 omega
theorem tM {kt tt ft:Addr} {m:Str} (h1:¬ m="kept_functions") (h2:¬ m="kept_ties") (h3:¬ m="kept_kinds"):(flF kt tt ft).lookup m=none:=by
 unfold flF flT flK
 rw [bf,if_neg h1,bf,if_neg h2,bf,if_neg h3]
 rfl
abbrev Any:Addr→Prop:=fun _=>True
def kZ (H H':Hp):Prop:=∀ a xs,H a=some (.tup xs)→H' a=some (.tup xs)
theorem av.tups {H H':Hp} (s:av H H'):kZ H H':=fun a xs e=>s a _ e
theorem oC {K:PySem.W.Frag} {H:Hp} {a b:Addr} {xs ys:List V} {Q:VK} (ha:H a=some (.tup xs)) (hb:H b=some (.tup ys)) (hl:xs.length+ys.length≤sizeLine) (q:∀ p H',H' p=some (.tup (xs++ys))→av H H'→Q (.ref p) H'):rH K (.ref a) (.ref b) H Q:=by
 refine⟨a,b,xs,ys,rfl,rfl,SqT.of ha,SqT.of hb,hl,fun e=>?_,fun _ e=>?_,fun _ _ p hp=>q p _ ac (af hp _)⟩
 ·subst e; exact q b H hb (av.refl _)
 ·subst e; exact q a H (by rw [List.append_nil]; exact ha) (av.refl _)
structure ClS (K:PySem.W.Frag) (C:Addr):Prop where
 cl:Cls K C
 nK:d9 K C "kept_kinds"
 nT:d9 K C "kept_ties"
 nF:d9 K C "kept_functions"
structure br where
 nm:Str
 ps:List Str
structure bt where
 nm:Str
 ps:List Str
 kd:Str
def gr (ws:List Str):List PyData:=ws.map PyData.str
def pU (t:br):PyData:=.tuple [.str t.nm,.list (gr t.ps)]
def qE (t:bt):PyData:=.tuple [.str t.nm,.list (gr t.ps),.str t.kd]
def mV (ks:List Str) (ts:List br) (fs:List bt):PyData:=.tuple [.list (gr ks),.list (ts.map pU),.list (fs.map qE)]
structure dE (ks:List Str) (ts:List br) (fs:List bt):Prop where
 kn:ks.Nodup
 k1:1≤ks.length
 k4:ks.length≤4
 kn2:∀ k∈ks,iF k
 sn:(ts.map (·.nm)++fs.map (·.nm)).Nodup
 sl:ts.length+fs.length≤8
 tn:∀ t∈ts,kN t.nm∧t.ps.length≤2∧∀ k∈t.ps,k∈ks
 fn:∀ t∈fs,kN t.nm∧t.ps.length≤2∧(∀ k∈t.ps,k∈ks)∧t.kd∈ks
def menuK:List Str:=["a","b","c","all","not","x","kind","size","r","f","abcdefghijkl"]
def menuS:List Str:=["r","s","q","f","g","c","x","say","holds","none","tie","next","zyxwvutsrqpo"]
theorem me:∀ k∈menuK,iF k:=by unfold iF; decide +kernel
theorem sI:∀ k∈menuS,kN k:=by unfold kN iF; decide +kernel
theorem sK:menuK.Nodup:=by decide +kernel
theorem sJ:menuS.Nodup:=by decide +kernel
theorem zci:LD "_law_functions":=by decide +kernel
theorem zcj:LS "_law_functions":=by decide +kernel
theorem zck:LD "_law_kinds":=by decide +kernel
theorem zcl:LS "_law_kinds":=by decide +kernel
theorem zcm:LD "_law_most_kinds":=by decide +kernel
theorem zcn:LS "_law_most_kinds":=by decide +kernel
theorem zco:LD "_law_most_signs":=by decide +kernel
theorem zcp:LS "_law_most_signs":=by decide +kernel
theorem zcq:LD "_law_name":=by decide +kernel
theorem zcr:LS "_law_name":=by decide +kernel
theorem zcs:LD "_law_names":=by decide +kernel
theorem zct:LS "_law_names":=by decide +kernel
theorem zcu:LD "_law_places":=by decide +kernel
theorem zcv:LS "_law_places":=by decide +kernel
theorem zcw:LD "_law_ties":=by decide +kernel
theorem zcx:LS "_law_ties":=by decide +kernel
theorem zcy:LD "_law_unlike":=by decide +kernel
section
variable {P:Program} {w:World} {K:PySem.W.Frag} {mg:Str→Option Value} {base:Heap}
abbrev aR:Stmt:=top 46
theorem zcz:aB ["_law_pot_here","_law_most_kinds","_law_most_signs","_law_menu","_law_kinds","_law_names","_law_ties","_law_functions","_law_name","_law_places"] ["_law_pot_here","_law_most_kinds","_law_most_signs"] (ah aR):=⟨rfl,rfl,rfl,by decide +kernel,rfl,by decide +kernel,by decide +kernel⟩
theorem zc0:LN .globalImplicit aR "_law_draw":=by decide +kernel
theorem zc1:LN .local aR "_law_functions":=by decide +kernel
theorem zc2:LN .cell aR "_law_kinds":=by decide +kernel
theorem zc3:LN .local aR "_law_menu":=by decide +kernel
theorem zc4:LN .local aR "_law_most_kinds":=by decide +kernel
theorem zc5:LN .local aR "_law_most_signs":=by decide +kernel
theorem zc6:LN .local aR "_law_name":=by decide +kernel
theorem zc7:LN .local aR "_law_names":=by decide +kernel
theorem zc8:LN .local aR "_law_places":=by decide +kernel
theorem zc9:LN .cell aR "_law_pot_here":=by decide +kernel
theorem zda:LN .local aR "_law_ties":=by decide +kernel
theorem zdb:LN .globalImplicit aR "_law_unlike":=by decide +kernel
theorem zdc:LN .globalImplicit aR "len":=by decide +kernel
theorem zdd:LN .globalImplicit aR "range":=by decide +kernel
abbrev QS1:Scope:={kind:=PySem.ScopeKind.function,names:=[ (PySem.Str.ofString ".0",PySem.NameKind.local),(PySem.Str.ofString "_law_k",PySem.NameKind.local),(PySem.Str.ofString "_law_draw",PySem.NameKind.globalImplicit),(PySem.Str.ofString "len",PySem.NameKind.globalImplicit),(PySem.Str.ofString "_law_kinds",PySem.NameKind.free),(PySem.Str.ofString "_law_pot_here",PySem.NameKind.free)],isGenerator:=false,isCoroutine:=false,more:=[]:PySem.Scope}
theorem zde:cw 1 ["_law_k","_law_pot_here","_law_most_kinds","_law_most_signs","_law_menu","_law_kinds","_law_names","_law_ties","_law_functions","_law_name","_law_places"] ["_law_pot_here","_law_most_kinds","_law_most_signs","_law_menu","_law_kinds","_law_names","_law_ties","_law_functions","_law_name","_law_places"] (ah aR) QS1:=⟨rfl,by decide +kernel,by decide +kernel,by decide +kernel,by decide +kernel,rfl,by decide +kernel⟩
theorem zdf:LC .globalImplicit QS1 "_law_draw":=by decide +kernel
theorem zdg:LC .local QS1 "_law_k":=by decide +kernel
theorem zdh:LC .free QS1 "_law_kinds":=by decide +kernel
theorem zdi:LC .free QS1 "_law_pot_here":=by decide +kernel
theorem zdj:LC .globalImplicit QS1 "len":=by decide +kernel
def rn:Sp:=fun vs H Q _=>∃ (p:Addr) (mk ms:Nat),vs=[.ref p,.int mk,.int ms]∧cW H p∧1≤mk∧mk≤4∧ms≤8∧
 ∀ v H' ks ts fs,RdV (fun a=>H a=none) H' v (mV ks ts fs)→dE ks ts fs→ks.length≤mk→ts.length+fs.length≤ms→cD p H H'→Q v H'
theorem uX (F:aL K mg "_law_book" aR ["_law_pot_here","_law_most_kinds","_law_most_signs"]) (Z:Bl mg) (D_law_draw:Def P w K mg base "_law_draw" 1 ["_law_pot_here","_law_many_here"] kj)
  (D_law_unlike:Def P w K mg base "_law_unlike" 2 ["_law_pot_here","_law_many_here","_law_menu"] (lE (K:=K))) :
  Def P w K mg base "_law_book" 3 ["_law_pot_here","_law_most_kinds","_law_most_signs"] rn:=by
 have SC:=zcz
 refine F.mk' (k:=2) zcz (fun vs H Q E h=>?_) (fun f cdv A outer s H vs Q E hr h=>?_)
 ·obtain⟨p,mk,ms,rfl,_⟩:=h
  rfl
 ·obtain⟨p,mk,ms,rfl,hp,hm1,hm4,hms,q⟩:=h
  refine'⟨_,?derivation,?_⟩
  case derivation=>refine' ak ?Aa ?Ba;(case Aa=>refine' bc (i:=3) (x:=Str.ofString "_law_menu") ?Ca ?Da ?Ea ?Fa ?Ga ?Ha;(case Ca=>exact SC.nd);(case Da=>exact rfl);(case Ea=>exact(Or.inl zc3));(case Fa=>refine' aU ?Ia;case Ia=>refine' pj (by repeat constructor));(case Ga=>rfl);case Ha=>exact .inl rfl);case Ba=>refine' ak ?Ja ?Ka;(case Ja=>refine' bc (i:=4) (x:=Str.ofString "_law_kinds") ?La ?Ma ?Na ?Oa ?Pa ?Qa;(case La=>exact SC.nd);(case Ma=>exact rfl);(case Na=>exact(Or.inr zc2));(case Oa=>refine' aJ (hdb:=zcy) D_law_unlike (hr.mono (by decide)) zdb ?Ra rfl rfl;case Ra=>refine' aa (pq 0 (d4 zc9) zbl zbm) ?Sa ?Ta;(case Sa=>refine' aa ?Ua ?Va ?Wa;(case Ua=>refine' bW gi ?Xa ?Ya;(case Xa=>exact aq);case Ya=>refine' aJ (hdb:=zbe) D_law_draw (hr.mono (by decide)) zc0 ?Za rfl rfl;case Za=>refine' aa (pq 0 (d4 zc9) zbl zbm) ?Ab ?Bb;(case Ab=>refine' aa (pq 1 (ap zc4) zcm zcn) ae ?Cb;case Cb=>rfl);case Bb=>rfl);(case Va=>refine' aa (pq 3 (ap zc3) zbj zbk) ae ?Db;case Db=>rfl);case Wa=>rfl);case Ta=>rfl);(case Pa=>rfl);case Qa=>exact .inl rfl);case Ka=>refine' ak ?Eb ?Fb;(case Eb=>refine' bc (i:=3) (x:=Str.ofString "_law_menu") ?Gb ?Hb ?Ib ?Jb ?Kb ?Lb;(case Gb=>exact SC.nd);(case Hb=>exact rfl);(case Ib=>exact(Or.inl zc3));(case Jb=>refine' aU ?Mb;case Mb=>refine' pj (by repeat constructor));(case Kb=>rfl);case Lb=>exact .inl rfl);case Fb=>refine' ak ?Nb ?Ob;(case Nb=>refine' bc (i:=5) (x:=Str.ofString "_law_names") ?Pb ?Qb ?Rb ?Sb ?Tb ?Ub;(case Pb=>exact SC.nd);(case Qb=>exact rfl);(case Rb=>exact(Or.inl zc7));(case Sb=>refine' aJ (hdb:=zcy) D_law_unlike (hr.mono (by decide)) zdb ?Vb rfl rfl;case Vb=>refine' aa (pq 0 (d4 zc9) zbl zbm) ?Wb ?Xb;(case Wb=>refine' aa ?Yb ?Zb ?Ac;(case Yb=>refine' aJ (hdb:=zbe) D_law_draw (hr.mono (by decide)) zc0 ?Bc rfl rfl;case Bc=>refine' aa (pq 0 (d4 zc9) zbl zbm) ?Cc ?Dc;(case Cc=>refine' aa ?Ec ae ?Fc;(case Ec=>refine' bW gi (pq 2 (ap zc5) zco zcp) ?Gc;case Gc=>exact aq);case Fc=>rfl);case Dc=>rfl);(case Zb=>refine' aa (pq 3 (ap zc3) zbj zbk) ae ?Hc;case Hc=>rfl);case Ac=>rfl);case Xb=>rfl);(case Tb=>rfl);case Ub=>exact .inl rfl);case Ob=>refine' ak ?Ic ?Jc;(case Ic=>refine' bc (i:=6) (x:=Str.ofString "_law_ties") ?Kc ?Lc ?Mc ?Nc ?Oc ?Pc;(case Kc=>exact SC.nd);(case Lc=>exact rfl);(case Mc=>exact(Or.inl zda));(case Nc=>refine' aU ae);(case Oc=>rfl);case Pc=>exact .inl rfl);case Jc=>refine' ak ?Qc ?Rc;(case Qc=>refine' bc (i:=7) (x:=Str.ofString "_law_functions") ?Sc ?Tc ?Uc ?Vc ?Wc ?Xc;(case Sc=>exact SC.nd);(case Tc=>exact rfl);(case Uc=>exact(Or.inl zc1));(case Vc=>refine' aU ae);(case Wc=>rfl);case Xc=>exact .inl rfl);case Rc=>refine' ak ?Yc ?Zc;(case Yc=>refine' cg PassesOwn.never rfl ?Ad ?Bd ?Cd ?Dd;(case Ad=>refine' bn (pq 5 (ap zc7) zcs zct));(case Bd=>refine' au (i:=8) (x:=Str.ofString "_law_name") SC.nd rfl (Or.inl zc6) (.inl rfl));(case Cd=>refine' ak ?Ed ?Fd;(case Ed=>refine' i5 (i:=9) (x:=Str.ofString "_law_places") SC.nd ?Gd (Or.inl zc8) ?Hd gF ?Id zde.at ?Jd ?Kd ?Ld ?Md ?Nd;(case Gd=>exact rfl);(case Hd=>exact rfl);(case Id=>exact rfl);(case Jd=>refine' eF zdd Z.n_range ?Od rfl;case Od=>refine' aa ?Pd ae ?Qd;(case Pd=>refine' cb cI ?Rd ?Sd ?Td;(case Rd=>refine' aU ?Ud;case Ud=>refine' aa ?Vd ?Wd ?Xd;(case Vd=>exact aq);(case Wd=>refine' aa ?Yd ?Zd ?Ae;(case Yd=>exact aq);(case Zd=>refine' aa ?Be ?Ce ?De;(case Be=>exact aq);(case Ce=>refine' aa ?Ee ae ?Fe;(case Ee=>exact aq);case Fe=>rfl);case De=>rfl);case Ae=>rfl);case Xd=>rfl);(case Sd=>refine' aJ (hdb:=zbe) D_law_draw (hr.mono (by decide)) zc0 ?Ge rfl rfl;case Ge=>refine' aa (pq 0 (d4 zc9) zbl zbm) ?He ?Ie;(case He=>refine' aa ?Je ae ?Ke;(case Je=>exact aq);case Ke=>rfl);case Ie=>rfl);case Td=>intro _ _;exact rfl);case Qd=>rfl);(case Kd=>intro _ _ _ _ _;refine' au (i:=0) zde.nd rfl (eL zdg) (.inr (lookup_relabel_local zdg)));(case Ld=>intro _ _ _ _ _;refine' cb cI (pq 5 (eZ zdh) zck zcl) ?Le ?Me;(case Le=>refine' aJ (hdb:=zbe) D_law_draw (hr.mono (by decide)) (glO zdf) ?Ne rfl rfl;case Ne=>refine' aa (pq 1 (eZ zdi) zbl zbm) ?Oe ?Pe;(case Oe=>refine' aa ?Qe ae ?Re;(case Qe=>refine' aD (hn:=zbs) (hdb:=zbr) aV (glO zdj) Z.n_len cC ?Se rfl rfl;case Se=>refine' aa (pq 5 (eZ zdh) zck zcl) ae ?Te;case Te=>rfl);case Re=>rfl);case Pe=>rfl);case Me=>intro _ _;exact rfl);(case Md=>intro _; rfl);case Nd=>exact .inl rfl);case Fd=>refine' am ?Ue;case Ue=>refine' cy ?Ve ?We ?Xe;(case Ve=>refine' bO yg ?Ye ?Ze (ck _);(case Ye=>refine' aJ (hdb:=zbe) D_law_draw (hr.mono (by decide)) zc0 ?Af rfl rfl;case Af=>refine' aa (pq 0 (d4 zc9) zbl zbm) ?Bf ?Cf;(case Bf=>refine' aa ?Df ae ?Ef;(case Df=>exact aq);case Ef=>rfl);case Cf=>rfl);case Ze=>exact aq);(case We=>refine' am ?Ff;case Ff=>refine' cZ ?Gf rfl;case Gf=>refine' jb PySem.F.plainAttrs_list PySem.F.slot_list_append PySem.F.type_list_append jW (pq 6 (ap zda) zcw zcx) ?Hf rfl rfl rfl rfl rfl;case Hf=>refine' aa ?If ae ?Jf;(case If=>refine' cj ?Kf;case Kf=>refine' aa (pq 8 (ap zc6) zcq zcr) ?Lf ?Mf;(case Lf=>refine' aa (pq 9 (ap zc8) zcu zcv) ae ?Nf;case Nf=>rfl);case Mf=>rfl);case Jf=>rfl);case Xe=>refine' am ?Of;case Of=>refine' cZ ?Pf rfl;case Pf=>refine' jb PySem.F.plainAttrs_list PySem.F.slot_list_append PySem.F.type_list_append jW (pq 7 (ap zc1) zci zcj) ?Qf rfl rfl rfl rfl rfl;case Qf=>refine' aa ?Rf ae ?Sf;(case Rf=>refine' cj ?Tf;case Tf=>refine' aa (pq 8 (ap zc6) zcq zcr) ?Uf ?Vf;(case Uf=>refine' aa (pq 9 (ap zc8) zcu zcv) ?Wf ?Xf;(case Wf=>refine' aa ?Yf ae ?Zf;(case Yf=>refine' cb cI (pq 4 (d4 zc2) zck zcl) ?Ag ?Bg;(case Ag=>refine' aJ (hdb:=zbe) D_law_draw (hr.mono (by decide)) zc0 ?Cg rfl rfl;case Cg=>refine' aa (pq 0 (d4 zc9) zbl zbm) ?Dg ?Eg;(case Dg=>refine' aa ?Fg ae ?Gg;(case Fg=>refine' aD (hn:=zbs) (hdb:=zbr) aV zdc Z.n_len cC ?Hg rfl rfl;case Hg=>refine' aa (pq 4 (d4 zc2) zck zcl) ae ?Ig;case Ig=>rfl);case Gg=>rfl);case Eg=>rfl);case Bg=>intro _ _;exact rfl);case Zf=>rfl);case Xf=>rfl);case Vf=>rfl);case Sf=>rfl);case Dd=>intro _; rfl);case Zc=>refine' am ?Jg;case Jg=>refine' aO ?Kg;case Kg=>refine' cj ?Lg;case Lg=>refine' aa (pq 4 (d4 zc2) zck zcl) ?Mg ?Ng;(case Mg=>refine' aa (pq 6 (ap zda) zcw zcx) ?Og ?Pg;(case Og=>refine' aa (pq 7 (ap zc1) zci zcj) ae ?Qg;case Qg=>rfl);case Pg=>rfl);case Ng=>rfl
  refine⟨by show 11≤sizeLine; decide,fun M1 hM1=>?_⟩
  have W1:=(cD.refl hp).new hM1 (.lst (menuK.map V.str))
  refine⟨_,rfl,_,rfl,_,rfl,p,_,rfl,W1.pot,by omega,by omega,fun r1 H1 a0 a1 hp1 s1=>?_⟩
  have W2:=W1.mk1 hp1 s1
  have hM1':H1 M1=some (.lst (menuK.map V.str)):=s1 M1 _ (Ne.symm ((cD.refl hp).ne hM1)) ac
  refine⟨_,_,rfl,rfl,_,rfl,p,M1,(1+r1).toNat,menuK,?_,hp1,SqL.of hM1',?_,by decide,sK,fun kA ks H2 hkA hkA2 hkl hknd hkin W3=>?_⟩
  ·show [V.ref p,V.int (1+r1),V.ref M1]=_
   rw [Int.toNat_of_nonneg (by omega)]
  ·show (1+r1).toNat≤11
   omega
  have W4:=W2.trans W3
  have kfree:H kA=none:=W2.free hkA
  have npk:kA≠p:=by rintro rfl; obtain⟨o,e⟩:=hp.some; rw [kfree] at e; cases e
  have hknm:∀ k∈ks,iF k:=fun k hk=>me k (hkin k hk)
  generalize hH3:H2=H3 at *
  have hk3:=hkA2
  have W5:=W4
  refine⟨by show 13≤sizeLine; decide,fun M2 hM2=>?_⟩
  have W6:=W5.new hM2 (.lst (menuS.map V.str))
  have hk6:(upd H3 M2 (.lst (menuS.map V.str))) kA=some (.lst (ks.map V.str)):=by rw [ag (al hk3 hM2)]; exact hk3
  refine⟨_,rfl,_,rfl,_,rfl,_,_,rfl,rfl,p,_,rfl,W6.pot,by omega,by omega,fun r3 H7 c0 c1 hp7 s7=>?_⟩
  have W7:=W6.mk1 hp7 s7
  have hM7:H7 M2=some (.lst (menuS.map V.str)):=s7 M2 _ (Ne.symm (W5.ne hM2)) ac
  have hk7:H7 kA=some (.lst (ks.map V.str)):=s7 kA _ npk hk6
  refine⟨_,rfl,p,M2,r3.toNat,menuS,?_,hp7,SqL.of hM7,?_,by decide,sJ,fun nA ns H8 hnA hnA2 hnl hnnd hnin W8=>?_⟩
  ·show [V.ref p,V.int r3,V.ref M2]=_
   rw [Int.toNat_of_nonneg c0]
  ·show r3.toNat≤13
   omega
  have W9:=W7.trans W8
  have nfree:H nA=none:=W7.free hnA
  have npn:nA≠p:=by rintro rfl; obtain⟨o,e⟩:=hp.some; rw [nfree] at e; cases e
  have hk8:H8 kA=some (.lst (ks.map V.str)):=W8.at npk hk7
  have hnsg:∀ k∈ns,kN k:=fun k hk=>sI k (hnin k hk)
  have hn9:=hnA2
  have hk9:=hk8
  have W10:=W9
  refine⟨by show 0≤sizeLine; decide,fun tA htA=>?_⟩
  have W11:=W10.new htA (.lst [])
  refine⟨by show 0≤sizeLine; decide,fun fA hfA=>?_⟩
  have W12:=W11.new hfA (.lst [])
  have tfree:H tA=none:=W10.free htA
  have ffree:H fA=none:=W11.free hfA
  have ntf:tA≠fA:=al ac hfA
  have hpt:p≠tA:=W10.ne htA
  have hpf:p≠fA:=W11.ne hfA
  have nkt:kA≠tA:=al hk9 htA
  have nkf:kA≠fA:=al (by rw [ag nkt]; exact hk9) hfA
  have nnt:nA≠tA:=al hn9 htA
  have nnf:nA≠fA:=al (by rw [ag nnt]; exact hn9) hfA
  have pne:∀ a,H a=none→a≠p:=fun a e=>by rintro rfl; obtain⟨o,e2⟩:=hp.some; rw [e] at e2; cases e2
  have keepR:∀ {H2 H3:Hp} {xs:List V} {ds:List PyData},ay p H2 H3→RdA (fun a=>H a=none∧a≠tA∧a≠fA) H2 xs ds→RdA (fun a=>H a=none∧a≠tA∧a≠fA) H3 xs ds:=fun s r=>r.mono (fun _ z=>z) fun a o z e=>s a o (pne a z.1) e
  refine⟨_,rfl,nA,rfl,⟨_,SqL.of (by rw [ag nnf,ag nnt]; exact hn9)⟩,bM (K:=K) (a:=nA) (xs:=ns.map V.str) (fun i σ H2=>∃ (ts:List br) (fs:List bt) (tv fv:List V) (v8 v9:Option V),σ=[some (.ref p),some (.int mk),some (.int ms),some (.ref M2),some (.ref kA),some (.ref nA),some (.ref tA),some (.ref fA),v8,v9]∧
    H2 tA=some (.lst tv)∧RdA (fun a=>H a=none∧a≠tA∧a≠fA) H2 tv (ts.map pU)∧H2 fA=some (.lst fv)∧RdA (fun a=>H a=none∧a≠tA∧a≠fA) H2 fv (fs.map qE)∧
    (ts.map (·.nm)++fs.map (·.nm)).Perm (ns.take i)∧(∀ t∈ts,kN t.nm∧t.ps.length≤2∧∀ k∈t.ps,k∈ks)∧(∀ t∈fs,kN t.nm∧t.ps.length≤2∧(∀ k∈t.ps,k∈ks)∧t.kd∈ks)∧H2 kA=some (.lst (ks.map V.str))∧H2 nA=some (.lst (ns.map V.str))∧cD p H H2)
   ⟨[],[],[],[],none,none,rfl,(by rw [ag ntf]; exact ac),.nil,ac,.nil,(by simp),(fun _ h=>nomatch h),(fun _ h=>nomatch h),(by rw [ag nkf,ag nkt]; exact hk9),(by rw [ag nnf,ag nnt]; exact hn9),W12⟩
   (fun i σ H2 _ ⟨_,_,_,_,_,_,_,_,_,_,_,_,_,_,_,z,_⟩=>SqL.of z) ?_ ?_⟩
  ·rintro i y σ H2 hi ⟨ts,fs,tv,fv,v8,v9,rfl,hT,rT,hF,rF,hperm,okT,okF,hK,hN,W⟩
   have hil:i<ns.length:=by have:=(List.getElem?_eq_some_iff.mp hi).1; simpa using this
   obtain rfl:y=V.str ns[i]:=by
    have : (ns.map V.str)[i]? = some (V.str ns[i]):=by simp [hil]
    rw [this] at hi; exact(Option.some.inj hi).symm
   have lenT:ts.length+fs.length=i:=by
    have:=hperm.length_eq
    simp only [List.length_append,List.length_map,List.length_take] at this
    omega
   have tvl:tv.length=ts.length:=by rw [rT.length,List.length_map]
   have fvl:fv.length=fs.length:=by rw [rF.length,List.length_map]
   have n8:ns.length≤8:=by omega
   refine⟨by show 4≤sizeLine; decide,fun L hL=>?_⟩
   have V1:=(cD.refl W.pot).new hL (.lst [.int 0,.int 1,.int 1,.int 2])
   refine⟨_,rfl,p,_,rfl,V1.pot,by decide,by decide,fun r5 H10 e0 e1 hp10 s10=>?_⟩
   have V2:=V1.mk1 hp10 s10
   have hL10:H10 L=some (.lst [.int 0,.int 1,.int 1,.int 2]):=s10 L _ (Ne.symm ((cD.refl W.pot).ne hL)) ac
   obtain⟨c,hc,hc0,hc2⟩:∃ c:Int,atI [V.int 0,V.int 1,V.int 1,V.int 2] r5=some (V.int c)∧0≤c∧c≤2:=by
    have h4:r5=0∨r5=1∨r5=2∨r5=3:=by omega
    rcases h4 with rfl | rfl | rfl | rfl
    ·exact⟨0,rfl,by decide,by decide⟩
    ·exact⟨1,rfl,by decide,by decide⟩
    ·exact⟨1,rfl,by decide,by decide⟩
    ·exact⟨2,rfl,by decide,by decide⟩
   refine⟨L,_,r5,_,rfl,rfl,SqL.of hL10,hc,c,rfl,by omega,by omega,?_⟩
   intro cl C ex sc Hc
   refine df c.toNat (fun j ys H11=>∃ us:List Str,ys=us.map V.str∧(∀ u∈us,u∈ks)∧cD p H2 H11) (fun _ _=>True)
    ⟨[],rfl,(fun _ h=>nomatch h),V2⟩ (Nat.le_trans (show c.toNat≤100 by omega) (show 100≤sizeLine by decide)) (fun i ys H1 hi _ _=>⟨hi,fun x H' y=>⟨y.1,trivial⟩⟩) (fun _ _ _ _=>Nat.le_refl _) ?_ ?_
   ·rintro j x ys H11 hj _ hy ⟨us,rfl,hus,V3⟩
    have hK11:H11 kA=some (.lst (ks.map V.str)):=V3.at npk hK
    refine⟨_,rfl,_,rfl,_,rfl,kA,_,rfl,.inl (SqL.of hK11),p,_,rfl,V3.pot,by rw [List.length_map]; omega,by rw [List.length_map]; omega,fun r6 H12 g0 g1 hp12 s12=>?_⟩
    rw [List.length_map] at g1
    have hr6:r6.toNat<ks.length:=by omega
    refine⟨kA,_,r6,V.str ks[r6.toNat],rfl,rfl,SqL.of (s12 kA _ npk hK11),eP g0 (by simp [hr6]),us++[ks[r6.toNat]],by simp,fun u hu=>?_,V3.mk1 hp12 s12⟩
    rcases List.mem_append.mp hu with hu | hu
    ·exact hus u hu
    ·rw [List.mem_singleton.mp hu]; exact List.getElem_mem hr6
   rintro ys H11 hy ⟨us,rfl,hus,V3⟩ D hD
   have hul:us.length≤2:=by
    have : us.length=c.toNat:=by simpa using hy
    omega
   have V4:=V3.new hD (.lst (us.map V.str))
   have W4:cD p H (upd H11 D (.lst (us.map V.str))):=⟨V4.pot,W.same.trans V4.same⟩
   refine⟨_,rfl,p,_,rfl,V4.pot,by decide,by decide,fun r7 H13 k0 k1 hp13 s13=>?_⟩
   refine⟨_,_,rfl,rfl,_,rfl,?_⟩
   have V5:=V4.mk1 hp13 s13
   have W5:cD p H H13:=⟨hp13,W4.same.trans s13⟩
   have hT13:H13 tA=some (.lst tv):=V5.at (Ne.symm hpt) hT
   have hF13:H13 fA=some (.lst fv):=V5.at (Ne.symm hpf) hF
   have hK13:H13 kA=some (.lst (ks.map V.str)):=V5.at npk hK
   have hN13:H13 nA=some (.lst (ns.map V.str)):=V5.at npn hN
   have rT13:=keepR V5.same rT
   have rF13:=keepR V5.same rF
   have nDp:D≠p:=Ne.symm (V3.ne hD)
   have hD13:H13 D=some (.lst (us.map V.str)):=s13 D _ nDp ac
   have hDfree:H D=none:=(show cD p H H11 from ⟨V3.pot,W.same.trans V3.same⟩).free hD
   have nDt:D≠tA:=by rintro rfl; rw [V3.at (Ne.symm hpt) hT] at hD; cases hD
   have nDf:D≠fA:=by rintro rfl; rw [V3.at (Ne.symm hpf) hF] at hD; cases hD
   have ptake:ns.take (i+1)=ns.take i++[ns[i]]:=by rw [List.take_succ]; simp [hil]
   refine sV (fun _=>?_) (fun _=>?_)
   ·
    refine⟨_,rfl,.inl ⟨rfl,_,SqL.of hT13⟩,_,rfl,_,rfl,by show 2≤sizeLine; decide,fun T hTn=>?_⟩
    have nTp:=W5.ne hTn
    have nTt:T≠tA:=by rintro rfl; rw [hT13] at hTn; cases hTn
    have nTf:T≠fA:=by rintro rfl; rw [hF13] at hTn; cases hTn
    have W6:=W5.new hTn (.tup [.str ns[i],.ref D])
    refine⟨tA,tv,_,rfl,rfl,by rw [ag (Ne.symm nTt)]; exact hT13,Nat.lt_of_lt_of_le (show tv.length<100 by omega) (by decide),?_⟩
    have W7:=W6.put hpt tfree (.lst (tv++[.ref T]))
    have st:∀ a o,(H a=none∧a≠tA∧a≠fA)→H13 a=some o→(upd (upd H13 T (.tup [.str ns[i],.ref D])) tA (.lst (tv++[.ref T]))) a=some o:=fun a o z e=>by rw [ag z.2.1,ag (al e hTn)]; exact e
    refine⟨ts++[⟨ns[i],us⟩],fs,tv++[.ref T],fv,_,_,rfl,ac,?_,?_,?_,?_,?_,okF,?_,?_,W7⟩
    ·rw [List.map_append]
     refine(rT13.mono (fun _ z=>z) st).snoc (.tup ⟨W5.free hTn,nTt,nTf⟩ (by rw [ag nTt]; exact ac) (.cons (.str _) (.cons (.lst ⟨hDfree,nDt,nDf⟩ (st D _ ⟨hDfree,nDt,nDf⟩ hD13) (RdA.strs us)) .nil)))
    ·rw [ag (Ne.symm ntf),ag (Ne.symm nTf)]; exact hF13
    ·exact rF13.mono (fun _ z=>z) st
    ·rw [List.map_append,List.map_cons,List.map_nil,ptake,List.append_assoc]
     refine(List.Perm.append_left _ List.perm_append_comm).trans ?_
     rw [← List.append_assoc]
     exact List.Perm.append_right _ hperm
    ·intro t ht
     rcases List.mem_append.mp ht with ht | ht
     ·exact okT t ht
     ·rw [List.mem_singleton.mp ht]; exact⟨hnsg _ (List.getElem_mem hil),hul,hus⟩
    ·rw [ag nkt,ag (al hK13 hTn)]; exact hK13
    ·rw [ag nnt,ag (al hN13 hTn)]; exact hN13
   ·
    refine⟨_,rfl,.inl ⟨rfl,_,SqL.of hF13⟩,_,rfl,_,rfl,_,rfl,_,rfl,_,rfl,kA,_,rfl,.inl (SqL.of hK13),p,_,rfl,hp13,by rw [List.length_map]; omega,by rw [List.length_map]; omega,fun r8 H14 m0 m1 hp14 s14=>?_⟩
    rw [List.length_map] at m1
    have hr8:r8.toNat<ks.length:=by omega
    have hK14:=s14 kA _ npk hK13
    have hT14:=s14 tA _ (Ne.symm hpt) hT13
    have hF14:=s14 fA _ (Ne.symm hpf) hF13
    have hN14:=s14 nA _ npn hN13
    have rT14:=keepR s14 rT13
    have rF14:=keepR s14 rF13
    have hD14:=s14 D _ nDp hD13
    have W6:=W5.mk1 hp14 s14
    refine⟨kA,_,r8,V.str ks[r8.toNat],rfl,rfl,SqL.of hK14,eP m0 (by simp [hr8]),by show 3≤sizeLine; decide,fun T hTn=>?_⟩
    have nTt:T≠tA:=by rintro rfl; rw [hT14] at hTn; cases hTn
    have nTf:T≠fA:=by rintro rfl; rw [hF14] at hTn; cases hTn
    have W7:=W6.new hTn (.tup [.str ns[i],.ref D,.str ks[r8.toNat]])
    refine⟨fA,fv,_,rfl,rfl,by rw [ag (Ne.symm nTf)]; exact hF14,Nat.lt_of_lt_of_le (show fv.length<100 by omega) (by decide),?_⟩
    have W8:=W7.put hpf ffree (.lst (fv++[.ref T]))
    have st:∀ a o,(H a=none∧a≠tA∧a≠fA)→H14 a=some o→(upd (upd H14 T (.tup [.str ns[i],.ref D,.str ks[r8.toNat]])) fA (.lst (fv++[.ref T]))) a=some o:=fun a o z e=>by rw [ag z.2.2,ag (al e hTn)]; exact e
    refine⟨ts,fs++[⟨ns[i],us,ks[r8.toNat]⟩],tv,fv++[.ref T],_,_,rfl,?_,?_,ac,?_,?_,okT,?_,?_,?_,W8⟩
    ·rw [ag ntf,ag (Ne.symm nTt)]; exact hT14
    ·exact rT14.mono (fun _ z=>z) st
    ·rw [List.map_append]
     refine(rF14.mono (fun _ z=>z) st).snoc (.tup ⟨W6.free hTn,nTt,nTf⟩ (by rw [ag nTf]; exact ac) (.cons (.str _) (.cons (.lst ⟨hDfree,nDt,nDf⟩ (st D _ ⟨hDfree,nDt,nDf⟩ hD14) (RdA.strs us)) (.cons (.str _) .nil))))
    ·rw [List.map_append,List.map_cons,List.map_nil,ptake,← List.append_assoc]
     exact List.Perm.append_right _ hperm
    ·intro t ht
     rcases List.mem_append.mp ht with ht | ht
     ·exact okF t ht
     ·rw [List.mem_singleton.mp ht]; exact⟨hnsg _ (List.getElem_mem hil),hul,hus,List.getElem_mem hr8⟩
    ·rw [ag nkf,ag (al hK14 hTn)]; exact hK14
    ·rw [ag nnf,ag (al hN14 hTn)]; exact hN14
  ·rintro σ H2 ⟨ts,fs,tv,fv,v8,v9,rfl,hT,rT,hF,rF,hperm,okT,okF,hK,hN,W⟩
   rw [List.length_map,List.take_length] at hperm
   have lenT:ts.length+fs.length=ns.length:=by
    have:=hperm.length_eq
    simpa using this
   refine⟨_,rfl,_,rfl,_,rfl,by show 3≤sizeLine; decide,fun B hB=>?_⟩
   have hs:=af hB (.tup [.ref kA,.ref tA,.ref fA])
   refine q _ _ ks ts fs (.tup (W.free hB) ac (.cons (.lst kfree (hs _ _ hK) (RdA.strs ks)) (.cons (.lst tfree (hs _ _ hT) (rT.mono (fun _ z=>z.1) fun a o _ e=>hs a o e)) (.cons (.lst ffree (hs _ _ hF) (rF.mono (fun _ z=>z.1) fun a o _ e=>hs a o e)) .nil))))
    ⟨hknd,by omega,by omega,hknm,(List.Perm.nodup_iff hperm).mpr hnnd,by omega,okT,okF⟩ (by omega) (by omega) (W.new hB _)
end
structure lg where
 nm:Str
 ps:List Str
 rest:List Str
def q9 (t:br):lg:=⟨t.nm,t.ps,[]⟩
def tF (t:bt):lg:=⟨t.nm,t.ps,[t.kd]⟩
def gb (t:br):PyData:=.tuple [.str t.nm,.tuple (gr t.ps)]
def gM (t:bt):PyData:=.tuple [.str t.nm,.tuple (gr t.ps),.str t.kd]
structure vz (H:Hp) (q:Addr×Addr) (r:lg):Prop where
 row:LT H q.1 (.str r.nm::.ref q.2::r.rest.map V.str)
 plc:LT H q.2 (r.ps.map V.str)
inductive Sgs (H:Hp):List (Addr×Addr)→List lg→Prop where
 | nil:Sgs H [] []
 | cons {q:Addr×Addr} {r:lg} {ab:List (Addr×Addr)} {rs:List lg}:vz H q r→Sgs H ab rs→Sgs H (q::ab) (r::rs)
theorem Sgs.length {H:Hp}:∀ {ab:List (Addr×Addr)} {rs:List lg},Sgs H ab rs→ab.length=rs.length
 | _,_,.nil=>rfl
 | _,_,.cons _ t=>by rw [List.length_cons,List.length_cons,Sgs.length t]
theorem Sgs.get {H:Hp}:∀ {ab:List (Addr×Addr)} {rs:List lg} {i:Nat} {q:Addr×Addr},Sgs H ab rs→ab[i]? = some q→∃ r,rs[i]? = some r∧vz H q r
 | _,_,_,_,.nil,h=>by simp at h
 | _,_,0,_,.cons a t,h=>by simp at h; subst h; exact⟨_,rfl,a⟩
 | _,_,i+1,_,.cons a t,h=>by simpa using Sgs.get (i:=i) t (by simpa using h)
theorem zdk:LD "LETTERS":=by decide +kernel
theorem zdl:LD "LONGEST_NAME":=by decide +kernel
theorem zdm:LD "MOST_KINDS":=by decide +kernel
theorem zdn:LD "MOST_PLACES":=by decide +kernel
theorem zdo:LD "WORDS_OF_SAYINGS":=by decide +kernel
theorem zdp:LD "all":=by decide +kernel
theorem zdq:LM "all":=by decide +kernel
theorem zdr:LD "check_apart":=by decide +kernel
theorem zds:LD "checked_kind":=by decide +kernel
theorem zdt:LD "checked_places":=by decide +kernel
theorem zdu:LD "checked_sign_name":=by decide +kernel
theorem zdv:LD "function":=by decide +kernel
theorem zdw:LS "function":=by decide +kernel
theorem zdx:LD "is_list":=by decide +kernel
theorem zdy:LD "is_name":=by decide +kernel
theorem zdz:LD "isinstance":=by decide +kernel
theorem zd0:LM "isinstance":=by decide +kernel
theorem zd1:LD "kind":=by decide +kernel
theorem zd2:LS "kind":=by decide +kernel
theorem zd3:LD "kinds":=by decide +kernel
theorem zd4:LS "kinds":=by decide +kernel
theorem zd5:LD "name":=by decide +kernel
theorem zd6:LS "name":=by decide +kernel
theorem zd7:LD "names":=by decide +kernel
theorem zd8:LS "names":=by decide +kernel
theorem zd9:LD "places":=by decide +kernel
theorem zea:LS "places":=by decide +kernel
theorem zeb:LD "set":=by decide +kernel
theorem zec:LM "set":=by decide +kernel
theorem zed:LD "sign":=by decide +kernel
theorem zee:LS "sign":=by decide +kernel
theorem zef:LD "str":=by decide +kernel
theorem zeg:LM "str":=by decide +kernel
theorem zeh:LD "thing":=by decide +kernel
theorem zei:LS "thing":=by decide +kernel
theorem zej:LD "tie":=by decide +kernel
theorem zek:LS "tie":=by decide +kernel
theorem zel:LD "tuple":=by decide +kernel
theorem zem:LM "tuple":=by decide +kernel
section
variable {P:Program} {w:World} {K:PySem.W.Frag} {mg:Str→Option Value} {base:Heap}
abbrev cU:Stmt:=top 14
theorem zen:aB ["thing"] ["thing"] (ah cU):=⟨rfl,rfl,rfl,by decide +kernel,rfl,by decide +kernel,by decide +kernel⟩
theorem zeo:LN .globalImplicit cU "isinstance":=by decide +kernel
theorem zep:LN .globalImplicit cU "list":=by decide +kernel
theorem zeq:LN .local cU "thing":=by decide +kernel
theorem zer:LN .globalImplicit cU "tuple":=by decide +kernel
def eC:Sp:=fun vs H Q _=>∃ (a:Addr) (xs:List V),vs=[.ref a]∧LT H a xs∧∀ H',av H H'→Q (.bl true) H'
theorem nY (F:aL K mg "is_list" cU ["thing"]) (Z:Bl mg):Def P w K mg base "is_list" 1 ["thing"] eC:=by
 have SC:=zen
 refine F.mk' (k:=0) zen (fun vs H Q E h=>?_) (fun f cdv A outer s H vs Q E hr h=>?_)
 ·obtain⟨a,xs,rfl,_⟩:=h
  rfl
 ·obtain⟨a,xs,rfl,hL,q⟩:=h
  refine'⟨_,?derivation,?_⟩
  case derivation=>refine' am ?Aa;case Aa=>refine' aO ?Ba;case Ba=>refine' aD (hn:=zd0) (hdb:=zdz) (j8 (T:="list") (U:="tuple")) zeo Z.n_isinstance bA ?Ca rfl rfl;case Ca=>refine' aa (pq 0 (ap zeq) zeh zei) ?Da ?Ea;(case Da=>refine' aa ?Fa ae ?Ga;(case Fa=>refine' cj ?Ha;case Ha=>refine' aa ?Ia ?Ja ?Ka;(case Ia=>refine' dS (v:=V.ty "list") (hn:=zbu) (hd:=zbt) zep Z.n_list ei rfl);(case Ja=>refine' aa ?La ae ?Ma;(case La=>refine' dS (v:=V.ty "tuple") (hn:=zem) (hd:=zel) zer Z.n_tuple d8 rfl);case Ma=>rfl);case Ka=>rfl);case Ga=>rfl);case Ea=>rfl
  refine⟨_,rfl,by show 2≤sizeLine; decide,fun t ht=>?_⟩
  have st:=af ht (.tup [.ty "list",.ty "tuple"])
  obtain⟨ty,hty,hk⟩:=(hL.same st).isi2 (K:=K)
  exact⟨_,t,ty,true,rfl,ac,hty,hk,q _ st⟩
abbrev cp:Stmt:=top 15
theorem zes:aB ["thing"] ["thing"] (ah cp):=⟨rfl,rfl,rfl,by decide +kernel,rfl,by decide +kernel,by decide +kernel⟩
theorem zet:LN .globalImplicit cp "LONGEST_NAME":=by decide +kernel
theorem zeu:LN .globalImplicit cp "all":=by decide +kernel
theorem zev:LN .globalImplicit cp "isinstance":=by decide +kernel
theorem zew:LN .globalImplicit cp "len":=by decide +kernel
theorem zex:LN .globalImplicit cp "str":=by decide +kernel
theorem zey:LN .local cp "thing":=by decide +kernel
abbrev QS2:Scope:={kind:=PySem.ScopeKind.function,names:=[ (PySem.Str.ofString ".0",PySem.NameKind.local),(PySem.Str.ofString "sign",PySem.NameKind.local),(PySem.Str.ofString "LETTERS",PySem.NameKind.globalImplicit)],isGenerator:=false,isCoroutine:=false,more:=[]:PySem.Scope}
theorem zez:cw 1 ["sign","thing"] ["thing"] (ah cp) QS2:=⟨rfl,by decide +kernel,by decide +kernel,by decide +kernel,by decide +kernel,rfl,by decide +kernel⟩
theorem ze0:LC .globalImplicit QS2 "LETTERS":=by decide +kernel
theorem ze1:LC .local QS2 "sign":=by decide +kernel
def gt:Sp:=fun vs H Q _=>∃ z:Str,vs=[.str z]∧iF z∧∀ H',av H H'→Q (.bl true) H'
theorem nX (F:aL K mg "is_name" cp ["thing"]) (Z:Bl mg) (G:Gs K mg):Def P w K mg base "is_name" 1 ["thing"] gt:=by
 have SC:=zes
 obtain⟨_,g_LETTERS,r_LETTERS⟩:=G.letters
 obtain⟨_,g_LONGEST_NAME,r_LONGEST_NAME⟩:=G.longest
 refine F.mk' (k:=0) zes (fun vs H Q E h=>?_) (fun f cdv A outer s H vs Q E hr h=>?_)
 ·obtain⟨z,rfl,_⟩:=h
  rfl
 ·obtain⟨z,rfl,⟨h1,h2,h3⟩,q⟩:=h
  have hz:=uu z
  have hcs:z.cps.size=z.cps.toList.length:=by simp
  refine'⟨_,?derivation,?_⟩
  case derivation=>refine' ak ?Aa ?Ba;(case Aa=>refine' cy ?Ca ?Da bq;(case Ca=>refine' PW.pt ?Ea;case Ea=>refine' eV ?Fa ?Ga;(case Fa=>refine' cf ?Ha;case Ha=>refine' cA ?Ia ?Ja;(case Ia=>refine' aD (hn:=zd0) (hdb:=zdz) (fR (T:="str")) zev Z.n_isinstance bA ?Ka rfl rfl;case Ka=>refine' aa (pq 0 (ap zey) zeh zei) ?La ?Ma;(case La=>refine' aa ?Na ae ?Oa;(case Na=>refine' dS (v:=V.ty "str") (hn:=zeg) (hd:=zef) zex Z.n_str xa rfl);case Oa=>rfl);case Ma=>rfl);case Ja=>intro _; rfl);case Ga=>refine' dL ?Pa;case Pa=>refine' cf ?Qa;case Qa=>refine' gD f9 f9 ?Ra ?Sa ?Ta ?Ua;(case Ra=>exact aq);(case Sa=>refine' aD (hn:=zbs) (hdb:=zbr) kW zew Z.n_len cC ?Va rfl rfl;case Va=>refine' aa (pq 0 (ap zey) zeh zei) ae ?Wa;case Wa=>rfl);(case Ta=>refine' bJ (hd:=zdl) zet g_LONGEST_NAME r_LONGEST_NAME);case Ua=>with_unfolding_all rfl);case Da=>refine' am ?Xa;case Xa=>refine' aO ?Ya;case Ya=>exact gE);case Ba=>refine' am ?Za;case Za=>refine' aO ?Ab;case Ab=>refine' aD (hn:=zdq) (hdb:=zdp) (qN rfl) zeu Z.n_all xg ?Bb rfl rfl;case Bb=>refine' aa ?Cb ae ?Db;(case Cb=>refine' dF gF rfl zez.at ?Eb ?Fb ?Gb ?Hb;(case Eb=>refine' wG (pq 0 (ap zey) zeh zei));(case Fb=>intro _ _ _ _ _;refine' au (i:=0) zez.nd rfl (eL ze1) (.inr (lookup_relabel_local ze1)));(case Gb=>intro _ _ _ _ _;refine' iN qd (pq 0 (eW ze1) zed zee) ?Ib (by with_unfolding_all rfl);case Ib=>refine' bJ (hd:=zdk) (glO ze0) g_LETTERS r_LETTERS);case Hb=>intro _; rfl);case Db=>rfl
  refine⟨_,rfl,_,_,_,rfl,.str _,sR K,true,rfl,eX ?_⟩
  refine⟨_,rfl,_,rfl,Nat.le_trans (show z.length≤12 by omega) (by decide),_,_,rfl,rfl,_,rfl,ifT (decide_eq_true (by omega)) ?_⟩
  refine⟨_,_,rfl,rfl,_,rfl,ifF (by simp; omega) ?_⟩
  refine⟨_,rfl,z,rfl,?_⟩
  intro cl C ex s0 H0
  refine df z.cps.size (fun i ys H1=>ys=(List.replicate i true).map V.bl∧H1=H) (fun i x=>∃ c,z.cps[i]? = some c∧x=.str ⟨#[c]⟩) ⟨rfl,rfl⟩ (Nat.le_trans (show z.cps.size≤12 by omega) (by decide)) (fun i ys H1 hi _ _=>wW hi) (fun ys H1 _ _=>rj) ?_ ?_
  ·rintro i x ys H1 hi ⟨c,hc,rfl⟩ hy ⟨rfl,rfl⟩
   have hm:c∈z.cps.toList:=by
    have : z.cps.toList[i]? = some c:=by simpa using hc
    exact List.mem_of_getElem? this
   obtain⟨c0,c1⟩:=h3 c hm
   refine⟨_,rfl,_,_,rfl,rfl,?_,rfl⟩
   rw [wV c0 c1,List.replicate_succ',List.map_append]
   rfl
  ·rintro ys H1 hy ⟨rfl,rfl⟩ D hD
   refine⟨D,List.replicate z.cps.size true,rfl,SqL.of ac,?_⟩
   have e:(List.replicate z.cps.size true).all id=true:=by simp
   rw [e]
   exact q _ (af hD _)
abbrev cr:Stmt:=top 40
theorem ze2:aB ["names"] ["names"] (ah cr):=⟨rfl,rfl,rfl,by decide +kernel,rfl,by decide +kernel,by decide +kernel⟩
theorem ze3:LN .globalImplicit cr "len":=by decide +kernel
theorem ze4:LN .local cr "names":=by decide +kernel
theorem ze5:LN .globalImplicit cr "set":=by decide +kernel
def km:Sp:=fun vs H Q _=>∃ (a:Addr) (ws:List Str),vs=[.ref a]∧LT H a (ws.map V.str)∧ws.Nodup∧ws.length≤1000∧∀ H',av H H'→Q .non H'
theorem su (F:aL K mg "check_apart" cr ["names"]) (Z:Bl mg):Def P w K mg base "check_apart" 1 ["names"] km:=by
 have SC:=ze2
 refine F.mk' (k:=0) ze2 (fun vs H Q E h=>?_) (fun f cdv A outer s H vs Q E hr h=>?_)
 ·obtain⟨a,ws,rfl,_⟩:=h
  rfl
 ·obtain⟨a,ws,rfl,hL,hnd,hl,q⟩:=h
  refine'⟨_,?derivation,?_⟩
  case derivation=>refine' am ?Aa;case Aa=>refine' cy ?Ba ?Ca bq;(case Ba=>refine' bO lX ?Da ?Ea (ck _);(case Da=>refine' aD (hn:=zbs) (hdb:=zbr) qM ze3 Z.n_len cC ?Fa rfl rfl;case Fa=>refine' aa ?Ga ae ?Ha;(case Ga=>refine' bR (hn:=zec) (hdb:=zeb) (qK rfl) ze5 Z.n_set xb ?Ia rfl rfl;case Ia=>refine' aa (pq 0 (ap ze4) zd7 zd8) ae ?Ja;case Ja=>rfl);case Ha=>rfl);case Ea=>refine' aD (hn:=zbs) (hdb:=zbr) aV ze3 Z.n_len cC ?Ka rfl rfl;case Ka=>refine' aa (pq 0 (ap ze4) zd7 zd8) ae ?La;case La=>rfl);case Ca=>refine' am cE
  refine⟨_,rfl,a,ws,rfl,hL.sq,Nat.lt_of_le_of_lt (show ws.length+1≤1001 by omega) (by decide),fun d hd=>?_⟩
  have st:=af hd (xj P w d ws)
  refine⟨d,ws,rfl,ac,?_⟩
  refine⟨_,rfl,a,_,rfl,(hL.same st).sq,rfl,_,rfl,?_⟩
  have e:(ws.foldl dq []).length=ws.length:=by rw [iz ws [] hnd (fun _ _ z=>nomatch z)]; simp
  refine ifF ?_ (q _ st)
  rw [e,List.length_map]
  simp
abbrev aP:Stmt:=top 34
theorem ze6:aB ["kinds","kind"] ["kinds"] (ah aP):=⟨rfl,rfl,rfl,by decide +kernel,rfl,by decide +kernel,by decide +kernel⟩
theorem ze7:LN .globalImplicit aP "MOST_KINDS":=by decide +kernel
theorem ze8:LN .globalImplicit aP "check_apart":=by decide +kernel
theorem ze9:LN .globalImplicit aP "is_list":=by decide +kernel
theorem zfa:LN .globalImplicit aP "is_name":=by decide +kernel
theorem zfb:LN .local aP "kind":=by decide +kernel
theorem zfc:LN .local aP "kinds":=by decide +kernel
theorem zfd:LN .globalImplicit aP "len":=by decide +kernel
theorem zfe:LN .globalImplicit aP "tuple":=by decide +kernel
structure vD (ks:List Str):Prop where
 kn:ks.Nodup
 k1:1≤ks.length
 k4:ks.length≤4
 kn2:∀ k∈ks,iF k
def oX:Sp:=fun vs H Q _=>∃ (a:Addr) (ks:List Str),vs=[.ref a]∧LT H a (ks.map V.str)∧vD ks∧∀ t H',H' t=some (.tup (ks.map V.str))→av H H'→Q (.ref t) H'
theorem so (F:aL K mg "checked_kinds" aP ["kinds"]) (Z:Bl mg) (G:Gs K mg) (D_is_list:Def P w K mg base "is_list" 1 ["thing"] eC) (D_is_name:Def P w K mg base "is_name" 1 ["thing"] gt) (D_check_apart:Def P w K mg base "check_apart" 1 ["names"] km) :
  Def P w K mg base "checked_kinds" 2 ["kinds"] oX:=by
 have SC:=ze6
 obtain⟨_,g_MOST_KINDS,r_MOST_KINDS⟩:=G.mkinds
 refine F.mk' (k:=1) ze6 (fun vs H Q E h=>?_) (fun f cdv A outer s H vs Q E hr h=>?_)
 ·obtain⟨a,ks,rfl,_⟩:=h
  rfl
 ·obtain⟨a,ks,rfl,hL,ok,q⟩:=h
  have k1:=ok.k1
  have k4:=ok.k4
  refine'⟨_,?derivation,?_⟩
  case derivation=>refine' ak ?Aa ?Ba;(case Aa=>refine' cy ?Ca ?Da bq;(case Ca=>refine' PW.pt ?Ea;case Ea=>refine' eV ?Fa ?Ga;(case Fa=>refine' cf ?Ha;case Ha=>refine' cA ?Ia ?Ja;(case Ia=>refine' aJ (hdb:=zdx) D_is_list (hr.mono (by decide)) ze9 ?Ka rfl rfl;case Ka=>refine' aa (pq 0 (ap zfc) zd3 zd4) ae ?La;case La=>rfl);case Ja=>intro _; rfl);case Ga=>refine' dL ?Ma;case Ma=>refine' cf ?Na;case Na=>refine' gD f9 f9 ?Oa ?Pa ?Qa ?Ra;(case Oa=>exact aq);(case Pa=>refine' aD (hn:=zbs) (hdb:=zbr) aV zfd Z.n_len cC ?Sa rfl rfl;case Sa=>refine' aa (pq 0 (ap zfc) zd3 zd4) ae ?Ta;case Ta=>rfl);(case Qa=>refine' bJ (hd:=zdm) ze7 g_MOST_KINDS r_MOST_KINDS);case Ra=>with_unfolding_all rfl);case Da=>refine' am cE);case Ba=>refine' ak ?Ua ?Va;(case Ua=>refine' cg PassesOwn.never rfl ?Wa ?Xa ?Ya ?Za;(case Wa=>refine' i9 (pq 0 (ap zfc) zd3 zd4));(case Xa=>refine' au (i:=1) (x:=Str.ofString "kind") SC.nd rfl (Or.inl zfb) (.inl rfl));(case Ya=>refine' am ?Ab;case Ab=>refine' cy ?Bb ?Cb bq;(case Bb=>refine' cf ?Db;case Db=>refine' cA ?Eb ?Fb;(case Eb=>refine' aJ (hdb:=zdy) D_is_name (hr.mono (by decide)) zfa ?Gb rfl rfl;case Gb=>refine' aa (pq 1 (ap zfb) zd1 zd2) ae ?Hb;case Hb=>rfl);case Fb=>intro _; rfl);case Cb=>refine' am cE);case Za=>intro _; rfl);case Va=>refine' ak ?Ib ?Jb;(case Ib=>refine' cZ ?Kb rfl;case Kb=>refine' aJ (hdb:=zdr) D_check_apart (hr.mono (by decide)) ze8 ?Lb rfl rfl;case Lb=>refine' aa (pq 0 (ap zfc) zd3 zd4) ae ?Mb;case Mb=>rfl);case Jb=>refine' am ?Nb;case Nb=>refine' aO ?Ob;case Ob=>refine' bR (hn:=zem) (hdb:=zel) ?Pb zfe Z.n_tuple d8 ?Qb rfl rfl;(case Pb=>exact cF);case Qb=>refine' aa (pq 0 (ap zfc) zd3 zd4) ae ?Rb;case Rb=>rfl
  refine⟨_,rfl,a,_,rfl,hL,fun H1 s1=>⟨true,rfl,eX ?_⟩⟩
  refine⟨_,rfl,a,_,rfl,(hL.same s1).sq,_,_,rfl,rfl,_,rfl,ifT (decide_eq_true (by rw [List.length_map]; omega)) ?_⟩
  refine⟨_,_,rfl,rfl,_,rfl,ifF (by rw [List.length_map]; simp; omega) ?_⟩
  refine(hL.same s1).over rfl fun J O=>O.loop (fun j σ H2=>∃ v,σ=[some (.ref a),v]∧av H1 H2) ⟨_,rfl,av.refl _⟩ (fun j σ H2 _ ⟨_,_,z⟩ o e=>z a o e) ?_ ?_
  ·rintro i x σ H2 hi ⟨v,rfl,s2⟩
   rw [List.getElem?_map] at hi
   obtain⟨k,hk,rfl⟩:=Option.map_eq_some_iff.mp hi
   refine⟨_,rfl,k,rfl,ok.kn2 k (List.mem_of_getElem? hk),fun H3 s3=>⟨true,rfl,eX ?_⟩⟩
   exact⟨_,rfl,s2.trans s3⟩
  ·rintro σ H2 ⟨v,rfl,s2⟩
   refine⟨_,rfl,a,ks,rfl,(hL.same s1).same s2,ok.kn,by omega,fun H3 s3=>?_⟩
   have s03:=(s1.trans s2).trans s3
   refine⟨_,rfl,a,ks.map V.str,rfl,?_⟩
   rcases hL.same s03 with e | e
   ·exact .inl ⟨SqL.of e,fun l hl=>q l _ ac (s03.trans (af hl _))⟩
   ·exact .inr ⟨SqT.of e,q a _ e s03⟩
abbrev ce:Stmt:=top 39
theorem zff:aB ["kinds","kind"] ["kinds","kind"] (ah ce):=⟨rfl,rfl,rfl,by decide +kernel,rfl,by decide +kernel,by decide +kernel⟩
theorem zfg:LN .globalImplicit ce "is_name":=by decide +kernel
theorem zfh:LN .local ce "kind":=by decide +kernel
theorem zfi:LN .local ce "kinds":=by decide +kernel
def ni:Sp:=fun vs H Q _=>∃ (a:Addr) (ks:List Str) (k:Str),vs=[.ref a,.str k]∧LT H a (ks.map V.str)∧iF k∧k∈ks∧∀ H',av H H'→Q (.str k) H'
theorem uS (F:aL K mg "checked_kind" ce ["kinds","kind"]) (Z:Bl mg) (D_is_name:Def P w K mg base "is_name" 1 ["thing"] gt):Def P w K mg base "checked_kind" 2 ["kinds","kind"] ni:=by
 have SC:=zff
 refine F.mk' (k:=1) zff (fun vs H Q E h=>?_) (fun f cdv A outer s H vs Q E hr h=>?_)
 ·obtain⟨a,ks,k,rfl,_⟩:=h
  rfl
 ·obtain⟨a,ks,k,rfl,hL,hn,hk,q⟩:=h
  refine'⟨_,?derivation,?_⟩
  case derivation=>refine' ak ?Aa ?Ba;(case Aa=>refine' cy ?Ca ?Da bq;(case Ca=>refine' PW.pt ?Ea;case Ea=>refine' eV ?Fa ?Ga;(case Fa=>refine' cf ?Ha;case Ha=>refine' cA ?Ia ?Ja;(case Ia=>refine' aJ (hdb:=zdy) D_is_name (hr.mono (by decide)) zfg ?Ka rfl rfl;case Ka=>refine' aa (pq 1 (ap zfh) zd1 zd2) ae ?La;case La=>rfl);case Ja=>intro _; rfl);case Ga=>refine' dL ?Ma;case Ma=>refine' bO kI (pq 1 (ap zfh) zd1 zd2) (pq 0 (ap zfi) zd3 zd4) (by with_unfolding_all rfl));case Da=>refine' am cE);case Ba=>refine' am ?Na;case Na=>refine' aO (pq 1 (ap zfh) zd1 zd2)
  refine⟨_,rfl,k,rfl,hn,fun H1 s1=>⟨true,rfl,eX ?_⟩⟩
  refine⟨_,rfl,_,rfl,a,_,rfl,(hL.same s1).sq,rfl,ie ks,_,rfl,ifF ?_ ⟨_,rfl,q _ s1⟩⟩
  rw [jl,decide_eq_true hk]
  decide
abbrev ba:Stmt:=top 38
theorem zfj:aB ["kinds","places"] ["kinds","places"] (ah ba):=⟨rfl,rfl,rfl,by decide +kernel,rfl,by decide +kernel,by decide +kernel⟩
theorem zfk:LN .globalImplicit ba "MOST_PLACES":=by decide +kernel
theorem zfl:LN .globalImplicit ba "is_list":=by decide +kernel
theorem zfm:LN .globalImplicit ba "len":=by decide +kernel
theorem zfn:LN .local ba "places":=by decide +kernel
theorem zfo:LN .globalImplicit ba "tuple":=by decide +kernel
abbrev QS3:Scope:={kind:=PySem.ScopeKind.function,names:=[ (PySem.Str.ofString ".0",PySem.NameKind.local),(PySem.Str.ofString "kind",PySem.NameKind.local),(PySem.Str.ofString "checked_kind",PySem.NameKind.globalImplicit),(PySem.Str.ofString "kinds",PySem.NameKind.free)],isGenerator:=false,isCoroutine:=false,more:=[]:PySem.Scope}
theorem zfp:cw 1 ["kind","kinds","places"] ["kinds","places"] (ah ba) QS3:=⟨rfl,by decide +kernel,by decide +kernel,by decide +kernel,by decide +kernel,rfl,by decide +kernel⟩
theorem zfq:LC .globalImplicit QS3 "checked_kind":=by decide +kernel
theorem zfr:LC .local QS3 "kind":=by decide +kernel
theorem zfs:LC .free QS3 "kinds":=by decide +kernel
def iX:Sp:=fun vs H Q _=>∃ (a b:Addr) (ks ps:List Str),vs=[.ref a,.ref b]∧LT H a (ks.map V.str)∧(∀ k∈ks,iF k)∧LT H b (ps.map V.str)∧ps.length≤2∧(∀ k∈ps,k∈ks)∧∀ t H',H' t=some (.tup (ps.map V.str))→av H H'→Q (.ref t) H'
theorem qh (F:aL K mg "checked_places" ba ["kinds","places"]) (Z:Bl mg) (G:Gs K mg) (D_is_list:Def P w K mg base "is_list" 1 ["thing"] eC) (D_checked_kind:Def P w K mg base "checked_kind" 2 ["kinds","kind"] ni):Def P w K mg base "checked_places" 3 ["kinds","places"] iX:=by
 have SC:=zfj
 obtain⟨_,g_MOST_PLACES,r_MOST_PLACES⟩:=G.mplaces
 refine F.mk' (k:=2) zfj (fun vs H Q E h=>?_) (fun f cdv A outer s H vs Q E hr h=>?_)
 ·obtain⟨a,b,ks,ps,rfl,_⟩:=h
  rfl
 ·obtain⟨a,b,ks,ps,rfl,hA,hnm,hB,h2,hin,q⟩:=h
  refine'⟨_,?derivation,?_⟩
  case derivation=>refine' ak ?Aa ?Ba;(case Aa=>refine' cy ?Ca ?Da bq;(case Ca=>refine' PW.pt ?Ea;case Ea=>refine' eV ?Fa ?Ga;(case Fa=>refine' cf ?Ha;case Ha=>refine' cA ?Ia ?Ja;(case Ia=>refine' aJ (hdb:=zdx) D_is_list (hr.mono (by decide)) zfl ?Ka rfl rfl;case Ka=>refine' aa (pq 1 (ap zfn) zd9 zea) ae ?La;case La=>rfl);case Ja=>intro _; rfl);case Ga=>refine' dL ?Ma;case Ma=>refine' bO rX ?Na ?Oa (ck _);(case Na=>refine' aD (hn:=zbs) (hdb:=zbr) aV zfm Z.n_len cC ?Pa rfl rfl;case Pa=>refine' aa (pq 1 (ap zfn) zd9 zea) ae ?Qa;case Qa=>rfl);case Oa=>refine' bJ (hd:=zdn) zfk g_MOST_PLACES r_MOST_PLACES);case Da=>refine' am cE);case Ba=>refine' am ?Ra;case Ra=>refine' aO ?Sa;case Sa=>refine' bR (hn:=zem) (hdb:=zel) ?Ta zfo Z.n_tuple d8 ?Ua rfl rfl;(case Ta=>exact cF);case Ua=>refine' aa ?Va ae ?Wa;(case Va=>refine' dF gF rfl zfp.at ?Xa ?Ya ?Za ?Ab;(case Xa=>refine' i9 (pq 1 (ap zfn) zd9 zea));(case Ya=>intro _ _ _ _ _;refine' au (i:=0) zfp.nd rfl (eL zfr) (.inr (lookup_relabel_local zfr)));(case Za=>intro _ _ _ _ _;refine' aJ (hdb:=zds) D_checked_kind (hr.mono (by decide)) (glO zfq) ?Bb rfl rfl;case Bb=>refine' aa (pq 1 (eZ zfs) zd3 zd4) ?Cb ?Db;(case Cb=>refine' aa (pq 0 (eW zfr) zd1 zd2) ae ?Eb;case Eb=>rfl);case Db=>rfl);case Ab=>intro _; rfl);case Wa=>rfl
  refine⟨_,rfl,b,_,rfl,hB,fun H1 s1=>⟨true,rfl,eX ?_⟩⟩
  refine⟨_,rfl,b,_,rfl,(hB.same s1).sq,_,_,rfl,rfl,_,rfl,ifF (by rw [List.length_map]; simp; omega) ?_⟩
  refine(hB.same s1).over rfl fun J O=>?_
  intro cl C ex s0 H0
  refine O.comp (fun i ys H2=>ys=(ps.take i).map V.str∧av H1 H2) ⟨rfl,av.refl _⟩ (by rw [List.length_map]; exact Nat.le_trans h2 (by decide)) (fun i ys H2 _ ⟨_,z⟩ o e=>z b o e) ?_ ?_
  ·rintro i x ys H2 hi hy ⟨rfl,s2⟩
   rw [List.getElem?_map] at hi
   obtain⟨k,hk,rfl⟩:=Option.map_eq_some_iff.mp hi
   have hkp:=hin k (List.mem_of_getElem? hk)
   refine⟨_,rfl,_,rfl,a,ks,k,rfl,(hA.same s1).same s2,hnm k hkp,hkp,fun H3 s3=>⟨?_,s2.trans s3⟩⟩
   rw [List.take_succ,hk,List.map_append]; rfl
  ·rintro ys H2 hy ⟨rfl,s2⟩ D hD
   rw [List.length_map,List.take_length]
   refine⟨D,_,rfl,.inl ⟨SqL.of ac,fun t ht=>?_⟩⟩
   exact q t _ ac ((s1.trans s2).trans ((af hD _).trans (af ht _)))
abbrev bo:Stmt:=top 37
theorem zft:aB ["name"] ["name"] (ah bo):=⟨rfl,rfl,rfl,by decide +kernel,rfl,by decide +kernel,by decide +kernel⟩
theorem zfu:LN .globalImplicit bo "WORDS_OF_SAYINGS":=by decide +kernel
theorem zfv:LN .globalImplicit bo "is_name":=by decide +kernel
theorem zfw:LN .local bo "name":=by decide +kernel
def gc:Sp:=fun vs H Q _=>∃ (k:Str),vs=[.str k]∧kN k∧∀ H',av H H'→Q (.str k) H'
theorem kK (F:aL K mg "checked_sign_name" bo ["name"]) (Z:Bl mg) (G:Gs K mg) (D_is_name:Def P w K mg base "is_name" 1 ["thing"] gt):Def P w K mg base "checked_sign_name" 2 ["name"] gc:=by
 have SC:=zft
 obtain⟨wa,g_WORDS_OF_SAYINGS,hW⟩:=G.words
 have r_WORDS_OF_SAYINGS:aM (.ref wa) (.ref wa):=rfl
 refine F.mk' (k:=1) zft (fun vs H Q E h=>?_) (fun f cdv A outer s H vs Q E hr h=>?_)
 ·obtain⟨k,rfl,_⟩:=h
  rfl
 ·obtain⟨k,rfl,hs,q⟩:=h
  refine'⟨_,?derivation,?_⟩
  case derivation=>refine' ak ?Aa ?Ba;(case Aa=>refine' cy ?Ca ?Da bq;(case Ca=>refine' PW.pt ?Ea;case Ea=>refine' eV ?Fa ?Ga;(case Fa=>refine' cf ?Ha;case Ha=>refine' cA ?Ia ?Ja;(case Ia=>refine' aJ (hdb:=zdy) D_is_name (hr.mono (by decide)) zfv ?Ka rfl rfl;case Ka=>refine' aa (pq 0 (ap zfw) zd5 zd6) ae ?La;case La=>rfl);case Ja=>intro _; rfl);case Ga=>refine' dL ?Ma;case Ma=>refine' bO qe (pq 0 (ap zfw) zd5 zd6) ?Na (by with_unfolding_all rfl);case Na=>refine' bJ (hd:=zdo) zfu g_WORDS_OF_SAYINGS r_WORDS_OF_SAYINGS);case Da=>refine' am cE);case Ba=>refine' am ?Oa;case Oa=>refine' aO (pq 0 (ap zfw) zd5 zd6)
  refine⟨_,rfl,k,rfl,hs.1,fun H1 s1=>⟨true,rfl,eX ?_⟩⟩
  refine⟨_,rfl,wa,_,rfl,.inr (hW _),rfl,ie sayWords,_,rfl,ifF ?_ ⟨_,rfl,q _ s1⟩⟩
  rw [jl,decide_eq_false hs.2]
  decide
abbrev bg:Stmt:=top 35
theorem zfx:aB ["kinds","tie","name","places"] ["kinds","tie"] (ah bg):=⟨rfl,rfl,rfl,by decide +kernel,rfl,by decide +kernel,by decide +kernel⟩
theorem zfy:LN .globalImplicit bg "checked_places":=by decide +kernel
theorem zfz:LN .globalImplicit bg "checked_sign_name":=by decide +kernel
theorem zf0:LN .globalImplicit bg "is_list":=by decide +kernel
theorem zf1:LN .local bg "kinds":=by decide +kernel
theorem zf2:LN .globalImplicit bg "len":=by decide +kernel
theorem zf3:LN .local bg "name":=by decide +kernel
theorem zf4:LN .local bg "places":=by decide +kernel
theorem zf5:LN .local bg "tie":=by decide +kernel
def yD (ks:List Str) (nm:Str) (ps:List Str):Prop:=kN nm∧ps.length≤2∧∀ k∈ps,k∈ks
def vM:Sp:=fun vs H Q _=>∃ (a b c:Addr) (ks ps:List Str) (nm:Str),vs=[.ref a,.ref b]∧LT H a (ks.map V.str)∧(∀ k∈ks,iF k)∧LT H b [.str nm,.ref c]∧LT H c (ps.map V.str)∧yD ks nm ps∧
 ∀ t u H',H' t=some (.tup [.str nm,.ref u])→H' u=some (.tup (ps.map V.str))→av H H'→Q (.ref t) H'
theorem wO (F:aL K mg "checked_tie" bg ["kinds","tie"]) (Z:Bl mg) (D_is_list:Def P w K mg base "is_list" 1 ["thing"] eC) (D_checked_sign_name:Def P w K mg base "checked_sign_name" 2 ["name"] gc) (D_checked_places:Def P w K mg base "checked_places" 3 ["kinds","places"] iX) :
  Def P w K mg base "checked_tie" 4 ["kinds","tie"] vM:=by
 have SC:=zfx
 refine F.mk' (k:=3) zfx (fun vs H Q E h=>?_) (fun f cdv A outer s H vs Q E hr h=>?_)
 ·obtain⟨a,b,c,ks,ps,nm,rfl,_⟩:=h
  rfl
 ·obtain⟨a,b,c,ks,ps,nm,rfl,hA,hnm,hB,hC,⟨hs,h2,hin⟩,q⟩:=h
  refine'⟨_,?derivation,?_⟩
  case derivation=>refine' ak ?Aa ?Ba;(case Aa=>refine' cy ?Ca ?Da bq;(case Ca=>refine' PW.pt ?Ea;case Ea=>refine' eV ?Fa ?Ga;(case Fa=>refine' cf ?Ha;case Ha=>refine' cA ?Ia ?Ja;(case Ia=>refine' aJ (hdb:=zdx) D_is_list (hr.mono (by decide)) zf0 ?Ka rfl rfl;case Ka=>refine' aa (pq 1 (ap zf5) zej zek) ae ?La;case La=>rfl);case Ja=>intro _; rfl);case Ga=>refine' dL ?Ma;case Ma=>refine' bO lX ?Na ?Oa (ck _);(case Na=>refine' aD (hn:=zbs) (hdb:=zbr) aV zf2 Z.n_len cC ?Pa rfl rfl;case Pa=>refine' aa (pq 1 (ap zf5) zej zek) ae ?Qa;case Qa=>rfl);case Oa=>exact aq);case Da=>refine' am cE);case Ba=>refine' ak ?Ra ?Sa;(case Ra=>refine' kz ?Ta ?Ua ?Va ?Wa ?Xa;(case Ta=>exact(pq 1 (ap zf5) zej zek));(case Ua=>refine' nH rfl ?Ya rfl rfl;case Ya=>refine' bE ?Za ?Ab ?Bb;(case Za=>refine' au (i:=2) (x:=Str.ofString "name") SC.nd rfl (Or.inl zf3) (.inl rfl));(case Ab=>refine' bE ?Cb eK ?Db;(case Cb=>refine' au (i:=3) (x:=Str.ofString "places") SC.nd rfl (Or.inl zf4) (.inl rfl));case Db=>rfl);case Bb=>rfl);(case Va=>rfl);(case Wa=>rfl);case Xa=>rfl);case Sa=>refine' am ?Eb;case Eb=>refine' aO ?Fb;case Fb=>refine' cj ?Gb;case Gb=>refine' aa ?Hb ?Ib ?Jb;(case Hb=>refine' aJ (hdb:=zdu) D_checked_sign_name (hr.mono (by decide)) zfz ?Kb rfl rfl;case Kb=>refine' aa (pq 2 (ap zf3) zd5 zd6) ae ?Lb;case Lb=>rfl);(case Ib=>refine' aa ?Mb ae ?Nb;(case Mb=>refine' aJ (hdb:=zdt) D_checked_places (hr.mono (by decide)) zfy ?Ob rfl rfl;case Ob=>refine' aa (pq 0 (ap zf1) zd3 zd4) ?Pb ?Qb;(case Pb=>refine' aa (pq 3 (ap zf4) zd9 zea) ae ?Rb;case Rb=>rfl);case Qb=>rfl);case Nb=>rfl);case Jb=>rfl
  refine⟨_,rfl,b,_,rfl,hB,fun H1 s1=>⟨true,rfl,eX ?_⟩⟩
  refine⟨_,rfl,b,_,rfl,(hB.same s1).sq,rfl,_,rfl,ifF (by simp) ?_⟩
  refine⟨_,rfl,b,_,rfl,(hB.same s1).sq,rfl,_,_,rfl,_,_,rfl,rfl,?_⟩
  refine⟨_,rfl,nm,rfl,hs,fun H2 s2=>?_⟩
  have s02:=s1.trans s2
  refine⟨_,rfl,_,rfl,a,c,ks,ps,rfl,hA.same s02,hnm,hC.same s02,h2,hin,fun u H3 hu s3=>?_⟩
  refine⟨by show 2≤sizeLine; decide,fun t ht=>?_⟩
  exact q t u _ ac (af ht _ _ _ hu) ((s02.trans s3).trans (af ht _))
abbrev aA:Stmt:=top 36
theorem zf6:aB ["kinds","function","name","places","kind"] ["kinds","function"] (ah aA):=⟨rfl,rfl,rfl,by decide +kernel,rfl,by decide +kernel,by decide +kernel⟩
theorem zf7:LN .globalImplicit aA "checked_kind":=by decide +kernel
theorem zf8:LN .globalImplicit aA "checked_places":=by decide +kernel
theorem zf9:LN .globalImplicit aA "checked_sign_name":=by decide +kernel
theorem zga:LN .local aA "function":=by decide +kernel
theorem zgb:LN .globalImplicit aA "is_list":=by decide +kernel
theorem zgc:LN .local aA "kind":=by decide +kernel
theorem zgd:LN .local aA "kinds":=by decide +kernel
theorem zge:LN .globalImplicit aA "len":=by decide +kernel
theorem zgf:LN .local aA "name":=by decide +kernel
theorem zgg:LN .local aA "places":=by decide +kernel
def rm:Sp:=fun vs H Q _=>∃ (a b c:Addr) (ks ps:List Str) (nm kd:Str),vs=[.ref a,.ref b]∧LT H a (ks.map V.str)∧(∀ k∈ks,iF k)∧LT H b [.str nm,.ref c,.str kd]∧LT H c (ps.map V.str)∧yD ks nm ps∧kd∈ks∧
 ∀ t u H',H' t=some (.tup [.str nm,.ref u,.str kd])→H' u=some (.tup (ps.map V.str))→av H H'→Q (.ref t) H'
theorem uU (F:aL K mg "checked_function" aA ["kinds","function"]) (Z:Bl mg) (D_is_list:Def P w K mg base "is_list" 1 ["thing"] eC) (D_checked_sign_name:Def P w K mg base "checked_sign_name" 2 ["name"] gc) (D_checked_places:Def P w K mg base "checked_places" 3 ["kinds","places"] iX)
  (D_checked_kind:Def P w K mg base "checked_kind" 2 ["kinds","kind"] ni):Def P w K mg base "checked_function" 4 ["kinds","function"] rm:=by
 have SC:=zf6
 refine F.mk' (k:=3) zf6 (fun vs H Q E h=>?_) (fun f cdv A outer s H vs Q E hr h=>?_)
 ·obtain⟨a,b,c,ks,ps,nm,kd,rfl,_⟩:=h
  rfl
 ·obtain⟨a,b,c,ks,ps,nm,kd,rfl,hA,hnm,hB,hC,⟨hs,h2,hin⟩,hkd,q⟩:=h
  refine'⟨_,?derivation,?_⟩
  case derivation=>refine' ak ?Aa ?Ba;(case Aa=>refine' cy ?Ca ?Da bq;(case Ca=>refine' PW.pt ?Ea;case Ea=>refine' eV ?Fa ?Ga;(case Fa=>refine' cf ?Ha;case Ha=>refine' cA ?Ia ?Ja;(case Ia=>refine' aJ (hdb:=zdx) D_is_list (hr.mono (by decide)) zgb ?Ka rfl rfl;case Ka=>refine' aa (pq 1 (ap zga) zdv zdw) ae ?La;case La=>rfl);case Ja=>intro _; rfl);case Ga=>refine' dL ?Ma;case Ma=>refine' bO lX ?Na ?Oa (ck _);(case Na=>refine' aD (hn:=zbs) (hdb:=zbr) aV zge Z.n_len cC ?Pa rfl rfl;case Pa=>refine' aa (pq 1 (ap zga) zdv zdw) ae ?Qa;case Qa=>rfl);case Oa=>exact aq);case Da=>refine' am cE);case Ba=>refine' ak ?Ra ?Sa;(case Ra=>refine' kz ?Ta ?Ua ?Va ?Wa ?Xa;(case Ta=>exact(pq 1 (ap zga) zdv zdw));(case Ua=>refine' nH rfl ?Ya rfl rfl;case Ya=>refine' bE ?Za ?Ab ?Bb;(case Za=>refine' au (i:=2) (x:=Str.ofString "name") SC.nd rfl (Or.inl zgf) (.inl rfl));(case Ab=>refine' bE ?Cb ?Db ?Eb;(case Cb=>refine' au (i:=3) (x:=Str.ofString "places") SC.nd rfl (Or.inl zgg) (.inl rfl));(case Db=>refine' bE ?Fb eK ?Gb;(case Fb=>refine' au (i:=4) (x:=Str.ofString "kind") SC.nd rfl (Or.inl zgc) (.inl rfl));case Gb=>rfl);case Eb=>rfl);case Bb=>rfl);(case Va=>rfl);(case Wa=>rfl);case Xa=>rfl);case Sa=>refine' am ?Hb;case Hb=>refine' aO ?Ib;case Ib=>refine' cj ?Jb;case Jb=>refine' aa ?Kb ?Lb ?Mb;(case Kb=>refine' aJ (hdb:=zdu) D_checked_sign_name (hr.mono (by decide)) zf9 ?Nb rfl rfl;case Nb=>refine' aa (pq 2 (ap zgf) zd5 zd6) ae ?Ob;case Ob=>rfl);(case Lb=>refine' aa ?Pb ?Qb ?Rb;(case Pb=>refine' aJ (hdb:=zdt) D_checked_places (hr.mono (by decide)) zf8 ?Sb rfl rfl;case Sb=>refine' aa (pq 0 (ap zgd) zd3 zd4) ?Tb ?Ub;(case Tb=>refine' aa (pq 3 (ap zgg) zd9 zea) ae ?Vb;case Vb=>rfl);case Ub=>rfl);(case Qb=>refine' aa ?Wb ae ?Xb;(case Wb=>refine' aJ (hdb:=zds) D_checked_kind (hr.mono (by decide)) zf7 ?Yb rfl rfl;case Yb=>refine' aa (pq 0 (ap zgd) zd3 zd4) ?Zb ?Ac;(case Zb=>refine' aa (pq 4 (ap zgc) zd1 zd2) ae ?Bc;case Bc=>rfl);case Ac=>rfl);case Xb=>rfl);case Rb=>rfl);case Mb=>rfl
  refine⟨_,rfl,b,_,rfl,hB,fun H1 s1=>⟨true,rfl,eX ?_⟩⟩
  refine⟨_,rfl,b,_,rfl,(hB.same s1).sq,rfl,_,rfl,ifF (by simp) ?_⟩
  refine⟨_,rfl,b,_,rfl,(hB.same s1).sq,rfl,_,_,rfl,_,_,rfl,_,_,rfl,rfl,?_⟩
  refine⟨_,rfl,nm,rfl,hs,fun H2 s2=>?_⟩
  have s02:=s1.trans s2
  refine⟨_,rfl,_,rfl,a,c,ks,ps,rfl,hA.same s02,hnm,hC.same s02,h2,hin,fun u H3 hu s3=>?_⟩
  have s03:=s02.trans s3
  refine⟨_,rfl,_,rfl,a,ks,kd,rfl,hA.same s03,hnm kd hkd,hkd,fun H4 s4=>?_⟩
  refine⟨by show 3≤sizeLine; decide,fun t ht=>?_⟩
  exact q t u _ ac (af ht _ _ _ (s4 _ _ hu)) ((s03.trans s4).trans (af ht _))
end
theorem zgh:LD "MOST_SIGNS":=by decide +kernel
theorem zgi:LD "checked_function":=by decide +kernel
theorem zgj:LD "checked_kinds":=by decide +kernel
theorem zgk:LD "checked_tie":=by decide +kernel
theorem zgl:LD "functions":=by decide +kernel
theorem zgm:LS "functions":=by decide +kernel
theorem zgn:LD "self":=by decide +kernel
theorem zgo:LS "self":=by decide +kernel
theorem zgp:LD "ties":=by decide +kernel
theorem zgq:LS "ties":=by decide +kernel
def bC (C:Addr) (H:Hp) (x:Addr) (ks:List Str) (ts:List br) (fs:List bt):Prop:=
 ∃ dx kt tt ft tv fv,H x=some (.ins C dx (flF kt tt ft))∧H kt=some (.tup (ks.map V.str))∧H tt=some (.tup tv)∧RdA Any H tv (ts.map gb)∧H ft=some (.tup fv)∧RdA Any H fv (fs.map gM)
theorem iS:∀ ws:List Str,cm (gr ws)=true
 | []=>rfl
 | x::r=>by
  show (dR (PyData.str x)&&cm (gr r))=true
  rw [iS r]; rfl
theorem q8 (t:br):dR (gb t)=true:=by
 show (true&&(cm (gr t.ps)&&true))=true
 rw [iS]; rfl
theorem tE (t:bt):dR (gM t)=true:=by
 show (true&&(cm (gr t.ps)&&(true&&true)))=true
 rw [iS]; rfl
theorem gq:∀ ts:List br,cm (ts.map gb)=true
 | []=>rfl
 | x::r=>by
  show (dR (gb x)&&cm (r.map gb))=true
  rw [gq r,q8]; rfl
theorem jo:∀ ts:List bt,cm (ts.map gM)=true
 | []=>rfl
 | x::r=>by
  show (dR (gM x)&&cm (r.map gM))=true
  rw [jo r,tE]; rfl
theorem bC.keep {C:Addr} {H H':Hp} {x:Addr} {ks:List Str} {ts:List br} {fs:List bt} (h:bC C H x ks ts fs) (hx:∀ o,H x=some o→H' x=some o) (ht:kZ H H'):bC C H' x ks ts fs:=by
 obtain⟨dx,kt,tt,ft,tv,fv,h1,h2,h3,h4,h5,h6⟩:=h
 exact⟨dx,kt,tt,ft,tv,fv,hx _ h1,ht _ _ h2,ht _ _ h3,h4.monoT (fun _ z=>z) ht (gq ts),ht _ _ h5,h6.monoT (fun _ z=>z) ht (jo fs)⟩
def nmD:PyData→Str
 | .tuple (.str n::_)=>n
 | _=>Str.empty
theorem u4 (ts:List br):(ts.map gb).map nmD=ts.map (·.nm):=by rw [List.map_map]; rfl
theorem u5 (ts:List bt):(ts.map gM).map nmD=ts.map (·.nm):=by rw [List.map_map]; rfl
theorem uG {ts:List br} {fs:List bt} {d:PyData} (h:d∈ts.map gb++fs.map gM):∃ r,d=.tuple (.str (nmD d)::r):=by
 rcases List.mem_append.mp h with h | h
 ·obtain⟨t,_,rfl⟩:=List.mem_map.mp h
  exact⟨_,rfl⟩
 ·obtain⟨t,_,rfl⟩:=List.mem_map.mp h
  exact⟨_,rfl⟩
section
variable {P:Program} {w:World} {K:PySem.W.Frag} {mg:Str→Option Value} {base:Heap}
abbrev gw:Stmt:=gJ (top 33) 1
theorem zgr:aB ["self"] ["self"] (ah gw):=⟨rfl,rfl,rfl,by decide +kernel,rfl,by decide +kernel,by decide +kernel⟩
theorem zgs:LN .globalImplicit gw "list":=by decide +kernel
theorem zgt:LN .local gw "self":=by decide +kernel
def iI (C:Addr):Sp:=fun vs H Q _=>∃ (x:Addr) (ks:List Str) (ts:List br) (fs:List bt),vs=[.ref x]∧bC C H x ks ts fs∧∀ l,H l=none→Q (.ref l) (upd H l (.lst (ks.map V.str)))
theorem sd {f C:Addr} {fd:FuncData} (F:Fun K "kinds" "Signs.kinds" gw f fd) (Z:Bl mg) (T:ClS K C):dk P w K mg base CX0 1 f fd ["self"] (iI C):=by
 have SC:=zgr
 refine F.ok zgr (fun vs H Q E h=>?_) (fun cdv A outer s H vs Q E hr h=>?_)
 ·obtain⟨x,ks,ts,fs,rfl,_⟩:=h
  rfl
 ·obtain⟨x,ks,ts,fs,rfl,⟨dx,kt,tt,ft,tv,fv,h1,h2,h3,h4,h5,h6⟩,q⟩:=h
  refine'⟨_,?derivation,?_⟩
  case derivation=>refine' am ?Aa;case Aa=>refine' aO ?Ba;case Ba=>refine' bR (hn:=zbu) (hdb:=zbt) ?Ca zgs Z.n_list ei ?Da rfl rfl;(case Ca=>exact dW);case Da=>refine' aa ?Ea ae ?Fa;(case Ea=>refine' dA (pq 0 (ap zgt) zgn zgo) rfl);case Fa=>rfl
  exact⟨_,rfl,x,C,dx,_,_,rfl,h1,T.cl,T.nK,qG _ _ _,kt,_,rfl,.inr (SqT.of h2),q⟩
abbrev i0:Stmt:=gJ (top 33) 2
theorem zgu:aB ["self"] ["self"] (ah i0):=⟨rfl,rfl,rfl,by decide +kernel,rfl,by decide +kernel,by decide +kernel⟩
theorem zgv:LN .globalImplicit i0 "list":=by decide +kernel
theorem zgw:LN .local i0 "self":=by decide +kernel
def oQ (C:Addr):Sp:=fun vs H Q _=>∃ (x:Addr) (ks:List Str) (ts:List br) (fs:List bt),vs=[.ref x]∧bC C H x ks ts fs∧∀ l tv,H l=none→RdA Any H tv (ts.map gb)→Q (.ref l) (upd H l (.lst tv))
theorem rZ {f C:Addr} {fd:FuncData} (F:Fun K "ties" "Signs.ties" i0 f fd) (Z:Bl mg) (T:ClS K C):dk P w K mg base CX0 1 f fd ["self"] (oQ C):=by
 have SC:=zgu
 refine F.ok zgu (fun vs H Q E h=>?_) (fun cdv A outer s H vs Q E hr h=>?_)
 ·obtain⟨x,ks,ts,fs,rfl,_⟩:=h
  rfl
 ·obtain⟨x,ks,ts,fs,rfl,⟨dx,kt,tt,ft,tv,fv,h1,h2,h3,h4,h5,h6⟩,q⟩:=h
  refine'⟨_,?derivation,?_⟩
  case derivation=>refine' am ?Aa;case Aa=>refine' aO ?Ba;case Ba=>refine' bR (hn:=zbu) (hdb:=zbt) ?Ca zgv Z.n_list ei ?Da rfl rfl;(case Ca=>exact dW);case Da=>refine' aa ?Ea ae ?Fa;(case Ea=>refine' dA (pq 0 (ap zgw) zgn zgo) rfl);case Fa=>rfl
  exact⟨_,rfl,x,C,dx,_,_,rfl,h1,T.cl,T.nT,mE _ _ _,tt,_,rfl,.inr (SqT.of h3),fun l hl=>q l tv hl h4⟩
abbrev dI:Stmt:=gJ (top 33) 3
theorem zgx:aB ["self"] ["self"] (ah dI):=⟨rfl,rfl,rfl,by decide +kernel,rfl,by decide +kernel,by decide +kernel⟩
theorem zgy:LN .globalImplicit dI "list":=by decide +kernel
theorem zgz:LN .local dI "self":=by decide +kernel
def oR (C:Addr):Sp:=fun vs H Q _=>∃ (x:Addr) (ks:List Str) (ts:List br) (fs:List bt),vs=[.ref x]∧bC C H x ks ts fs∧∀ l fv,H l=none→RdA Any H fv (fs.map gM)→Q (.ref l) (upd H l (.lst fv))
theorem se {f C:Addr} {fd:FuncData} (F:Fun K "functions" "Signs.functions" dI f fd) (Z:Bl mg) (T:ClS K C):dk P w K mg base CX0 1 f fd ["self"] (oR C):=by
 have SC:=zgx
 refine F.ok zgx (fun vs H Q E h=>?_) (fun cdv A outer s H vs Q E hr h=>?_)
 ·obtain⟨x,ks,ts,fs,rfl,_⟩:=h
  rfl
 ·obtain⟨x,ks,ts,fs,rfl,⟨dx,kt,tt,ft,tv,fv,h1,h2,h3,h4,h5,h6⟩,q⟩:=h
  refine'⟨_,?derivation,?_⟩
  case derivation=>refine' am ?Aa;case Aa=>refine' aO ?Ba;case Ba=>refine' bR (hn:=zbu) (hdb:=zbt) ?Ca zgy Z.n_list ei ?Da rfl rfl;(case Ca=>exact dW);case Da=>refine' aa ?Ea ae ?Fa;(case Ea=>refine' dA (pq 0 (ap zgz) zgn zgo) rfl);case Fa=>rfl
  exact⟨_,rfl,x,C,dx,_,_,rfl,h1,T.cl,T.nF,mF _ _ _,ft,_,rfl,.inr (SqT.of h5),fun l hl=>q l fv hl h6⟩
abbrev bp:Stmt:=gJ (top 33) 0
theorem zg0:aB ["self","kinds","ties","functions"] ["self","kinds","ties","functions"] (ah bp):=⟨rfl,rfl,rfl,by decide +kernel,rfl,by decide +kernel,by decide +kernel⟩
theorem zg1:LN .globalImplicit bp "MOST_SIGNS":=by decide +kernel
theorem zg2:LN .globalImplicit bp "check_apart":=by decide +kernel
theorem zg3:LN .globalImplicit bp "checked_kinds":=by decide +kernel
theorem zg4:LN .local bp "functions":=by decide +kernel
theorem zg5:LN .globalImplicit bp "is_list":=by decide +kernel
theorem zg6:LN .local bp "kinds":=by decide +kernel
theorem zg7:LN .globalImplicit bp "len":=by decide +kernel
theorem zg8:LN .cell bp "self":=by decide +kernel
theorem zg9:LN .local bp "ties":=by decide +kernel
theorem zha:LN .globalImplicit bp "tuple":=by decide +kernel
abbrev QS4:Scope:={kind:=PySem.ScopeKind.function,names:=[(PySem.Str.ofString ".0",PySem.NameKind.local),(PySem.Str.ofString "sign",PySem.NameKind.local)],isGenerator:=false,isCoroutine:=false,more:=[]:PySem.Scope}
theorem zhb:cw 1 ["sign","self","kinds","ties","functions"] ["self","kinds","ties","functions"] (ah bp) QS4:=⟨rfl,by decide +kernel,by decide +kernel,by decide +kernel,by decide +kernel,rfl,by decide +kernel⟩
theorem zhc:LC .local QS4 "sign":=by decide +kernel
abbrev QS5:Scope:={kind:=PySem.ScopeKind.function,names:=[ (PySem.Str.ofString ".0",PySem.NameKind.local),(PySem.Str.ofString "function",PySem.NameKind.local),(PySem.Str.ofString "checked_function",PySem.NameKind.globalImplicit),(PySem.Str.ofString "self",PySem.NameKind.free)],isGenerator:=false,isCoroutine:=false,more:=[]:PySem.Scope}
theorem zhd:cw 1 ["function","self","kinds","ties","functions"] ["self","kinds","ties","functions"] (ah bp) QS5:=⟨rfl,by decide +kernel,by decide +kernel,by decide +kernel,by decide +kernel,rfl,by decide +kernel⟩
theorem zhe:LC .globalImplicit QS5 "checked_function":=by decide +kernel
theorem zhf:LC .local QS5 "function":=by decide +kernel
theorem zhg:LC .free QS5 "self":=by decide +kernel
abbrev QS6:Scope:={kind:=PySem.ScopeKind.function,names:=[ (PySem.Str.ofString ".0",PySem.NameKind.local),(PySem.Str.ofString "tie",PySem.NameKind.local),(PySem.Str.ofString "checked_tie",PySem.NameKind.globalImplicit),(PySem.Str.ofString "self",PySem.NameKind.free)],isGenerator:=false,isCoroutine:=false,more:=[]:PySem.Scope}
theorem zhh:cw 1 ["tie","self","kinds","ties","functions"] ["self","kinds","ties","functions"] (ah bp) QS6:=⟨rfl,by decide +kernel,by decide +kernel,by decide +kernel,by decide +kernel,rfl,by decide +kernel⟩
theorem zhi:LC .globalImplicit QS6 "checked_tie":=by decide +kernel
theorem zhj:LC .free QS6 "self":=by decide +kernel
theorem zhk:LC .local QS6 "tie":=by decide +kernel
def rk (C:Addr):Sp:=fun vs H Q _=>∃ (x dx a b c:Addr) (ab cd:List (Addr×Addr)) (ks:List Str) (ts:List br) (fs:List bt),vs=[.ref x,.ref a,.ref b,.ref c]∧H x=some (.ins C dx [])∧LT H a (ks.map V.str)∧
 LT H b (ab.map fun q=>V.ref q.1)∧Sgs H ab (ts.map q9)∧LT H c (cd.map fun q=>V.ref q.1)∧Sgs H cd (fs.map tF)∧dE ks ts fs∧∀ H',bC C H' x ks ts fs→ay x H H'→Q .non H'
theorem LT.neIns {H:Hp} {a x C dx:Addr} {xs:List V} {fl:List (Str×V)} (h:LT H a xs) (hx:H x=Option.some (.ins C dx fl)):a≠x:=by
 rintro rfl
 rcases h with h | h <;> (rw [h] at hx; cases hx)
theorem uT {f C:Addr} {fd:FuncData} (F:Fun K "__init__" "Signs.__init__" bp f fd) (Z:Bl mg) (G:Gs K mg) (T:ClS K C) (D_is_list:Def P w K mg base "is_list" 1 ["thing"] eC) (D_checked_kinds:Def P w K mg base "checked_kinds" 2 ["kinds"] oX)
  (D_checked_tie:Def P w K mg base "checked_tie" 4 ["kinds","tie"] vM) (D_checked_function:Def P w K mg base "checked_function" 4 ["kinds","function"] rm) (D_check_apart:Def P w K mg base "check_apart" 1 ["names"] km) :
  dk P w K mg base CX0 5 f fd ["self","kinds","ties","functions"] (rk C):=by
 have SC:=zg0
 obtain⟨_,g_MOST_SIGNS,r_MOST_SIGNS⟩:=G.msigns
 refine F.ok zg0 (fun vs H Q E h=>?_) (fun cdv A outer s H vs Q E hr h=>?_)
 ·obtain⟨x,dx,a,b,c,ab,cd,ks,ts,fs,rfl,_⟩:=h
  rfl
 ·obtain⟨x,dx,a,b,c,ab,cd,ks,ts,fs,rfl,hx,hA,hB,sB,hC,sC,ok,q⟩:=h
  have nbx:b≠x:=hB.neIns hx
  have ncx:c≠x:=hC.neIns hx
  have abl:ab.length=ts.length:=by rw [sB.length,List.length_map]
  have cdl:cd.length=fs.length:=by rw [sC.length,List.length_map]
  have sl:=ok.sl
  have sgx:∀ {H':Hp} {q:Addr×Addr} {r:lg},ay x H H'→vz H q r→vz H' q r:=fun s g=>⟨g.row.mono fun o e=>s _ _ (g.row.neIns hx) e,g.plc.mono fun o e=>s _ _ (g.plc.neIns hx) e⟩
  refine'⟨_,?derivation,?_⟩
  case derivation=>refine' ak ?Aa ?Ba;(case Aa=>refine' i7 (pq 0 (d4 zg8) zgn zgo) ?Ca rfl;case Ca=>refine' aJ (hdb:=zgj) D_checked_kinds (hr.mono (by decide)) zg3 ?Da rfl rfl;case Da=>refine' aa (pq 1 (ap zg6) zd3 zd4) ae ?Ea;case Ea=>rfl);case Ba=>refine' ak ?Fa ?Ga;(case Fa=>refine' cy ?Ha ?Ia bq;(case Ha=>refine' PW.pt ?Ja;case Ja=>refine' eV ?Ka ?La;(case Ka=>refine' cf ?Ma;case Ma=>refine' cA ?Na ?Oa;(case Na=>refine' aJ (hdb:=zdx) D_is_list (hr.mono (by decide)) zg5 ?Pa rfl rfl;case Pa=>refine' aa (pq 2 (ap zg9) zgp zgq) ae ?Qa;case Qa=>rfl);case Oa=>intro _; rfl);case La=>refine' dL ?Ra;case Ra=>refine' cf ?Sa;case Sa=>refine' cA ?Ta ?Ua;(case Ta=>refine' aJ (hdb:=zdx) D_is_list (hr.mono (by decide)) zg5 ?Va rfl rfl;case Va=>refine' aa (pq 3 (ap zg4) zgl zgm) ae ?Wa;case Wa=>rfl);case Ua=>intro _; rfl);case Ia=>refine' am cE);case Ga=>refine' ak ?Xa ?Ya;(case Xa=>refine' cy ?Za ?Ab bq;(case Za=>refine' bO rX ?Bb ?Cb (ck _);(case Bb=>refine' bW gi ?Db ?Eb;(case Db=>refine' aD (hn:=zbs) (hdb:=zbr) aV zg7 Z.n_len cC ?Fb rfl rfl;case Fb=>refine' aa (pq 2 (ap zg9) zgp zgq) ae ?Gb;case Gb=>rfl);case Eb=>refine' aD (hn:=zbs) (hdb:=zbr) aV zg7 Z.n_len cC ?Hb rfl rfl;case Hb=>refine' aa (pq 3 (ap zg4) zgl zgm) ae ?Ib;case Ib=>rfl);case Cb=>refine' bJ (hd:=zgh) zg1 g_MOST_SIGNS r_MOST_SIGNS);case Ab=>refine' am cE);case Ya=>refine' ak ?Jb ?Kb;(case Jb=>refine' i7 (pq 0 (d4 zg8) zgn zgo) ?Lb rfl;case Lb=>refine' bR (hn:=zem) (hdb:=zel) ?Mb zha Z.n_tuple d8 ?Nb rfl rfl;(case Mb=>exact cF);case Nb=>refine' aa ?Ob ae ?Pb;(case Ob=>refine' dF gF rfl zhh.at ?Qb ?Rb ?Sb ?Tb;(case Qb=>refine' i9 (pq 2 (ap zg9) zgp zgq));(case Rb=>intro _ _ _ _ _;refine' au (i:=0) zhh.nd rfl (eL zhk) (.inr (lookup_relabel_local zhk)));(case Sb=>intro _ _ _ _ _;refine' aJ (hdb:=zgk) D_checked_tie (hr.mono (by decide)) (glO zhi) ?Ub rfl rfl;case Ub=>refine' aa ?Vb ?Wb ?Xb;(case Vb=>refine' dA (pq 1 (eZ zhj) zgn zgo) rfl);(case Wb=>refine' aa (pq 0 (eW zhk) zej zek) ae ?Yb;case Yb=>rfl);case Xb=>rfl);case Tb=>intro _; rfl);case Pb=>rfl);case Kb=>refine' ak ?Zb ?Ac;(case Zb=>refine' i7 (pq 0 (d4 zg8) zgn zgo) ?Bc rfl;case Bc=>refine' bR (hn:=zem) (hdb:=zel) ?Cc zha Z.n_tuple d8 ?Dc rfl rfl;(case Cc=>exact cF);case Dc=>refine' aa ?Ec ae ?Fc;(case Ec=>refine' dF gF rfl zhd.at ?Gc ?Hc ?Ic ?Jc;(case Gc=>refine' i9 (pq 3 (ap zg4) zgl zgm));(case Hc=>intro _ _ _ _ _;refine' au (i:=0) zhd.nd rfl (eL zhf) (.inr (lookup_relabel_local zhf)));(case Ic=>intro _ _ _ _ _;refine' aJ (hdb:=zgi) D_checked_function (hr.mono (by decide)) (glO zhe) ?Kc rfl rfl;case Kc=>refine' aa ?Lc ?Mc ?Nc;(case Lc=>refine' dA (pq 1 (eZ zhg) zgn zgo) rfl);(case Mc=>refine' aa (pq 0 (eW zhf) zdv zdw) ae ?Oc;case Oc=>rfl);case Nc=>rfl);case Jc=>intro _; rfl);case Fc=>rfl);case Ac=>refine' am ?Pc;case Pc=>refine' cZ ?Qc rfl;case Qc=>refine' aJ (hdb:=zdr) D_check_apart (hr.mono (by decide)) zg2 ?Rc rfl rfl;case Rc=>refine' aa ?Sc ae ?Tc;(case Sc=>refine' dF gF rfl zhb.at ?Uc ?Vc ?Wc ?Xc;(case Uc=>refine' kD ?Yc;case Yc=>refine' bW jf ?Zc ?Ad;(case Zc=>refine' dA (pq 0 (d4 zg8) zgn zgo) rfl);case Ad=>refine' dA (pq 0 (d4 zg8) zgn zgo) rfl);(case Vc=>intro _ _ _ _ _;refine' au (i:=0) zhb.nd rfl (eL zhc) (.inr (lookup_relabel_local zhc)));(case Wc=>intro _ _ _ _ _;refine' cb cB (pq 0 (eW zhc) zed zee) ?Bd ?Cd;(case Bd=>exact aq);case Cd=>intro _ _;exact rfl);case Xc=>intro _; rfl);case Tc=>rfl
  refine⟨_,rfl,a,ks,rfl,hA,⟨ok.kn,ok.k1,ok.k4,ok.kn2⟩,fun kt H1 hkt s1=>?_⟩
  refine⟨_,rfl,x,C,dx,_,rfl,s1 _ _ hx,T.cl,T.nK,by decide,?_⟩
  have nkx:kt≠x:=by rintro rfl; rw [s1 _ _ hx] at hkt; cases hkt
  generalize hG2:upd H1 x (.ins C dx (dw "kept_kinds" (.ref kt) []))=H2
  have x2:H2 x=some (.ins C dx (flK kt)):=by rw [← hG2]; exact ac
  have k2:H2 kt=some (.tup (ks.map V.str)):=by rw [← hG2,ag nkx]; exact hkt
  have S2:ay x H H2:=by rw [← hG2]; exact s1.x.trans (ay.upd x H1 _)
  refine⟨_,rfl,b,_,rfl,hB.mono fun o e=>S2 _ _ nbx e,fun H3 s3=>⟨true,rfl,eX ?_⟩⟩
  have S3:=S2.same s3
  refine⟨_,rfl,c,_,rfl,hC.mono fun o e=>S3 _ _ ncx e,fun H4 s4=>⟨true,rfl,eX ?_⟩⟩
  have S4:=S3.same s4
  refine⟨_,rfl,b,_,rfl,(hB.mono fun o e=>S4 _ _ nbx e).sq,_,rfl,c,_,rfl,(hC.mono fun o e=>S4 _ _ ncx e).sq,_,_,rfl,rfl,_,_,rfl,rfl,_,rfl,ifF (by rw [List.length_map,List.length_map]; simp; omega) ?_⟩
  have s24:av H2 H4:=s3.trans s4
  refine(hB.mono fun o e=>S4 _ _ nbx e).over rfl fun J O=>?_
  intro cl C1 ex s0 H0
  refine O.comp (fun i ys H5=>RdA Any H5 ys ((ts.take i).map gb)∧av H4 H5) ⟨.nil,av.refl _⟩ (by rw [List.length_map]; exact Nat.le_trans (show ab.length≤8 by omega) (by decide)) (fun i ys H5 _ ⟨_,z⟩ o e=>z b o e) ?_ ?_
  ·rintro i y ys H5 hi hy ⟨r5,s5⟩
   rw [List.getElem?_map] at hi
   obtain⟨qq,hq,rfl⟩:=Option.map_eq_some_iff.mp hi
   obtain⟨r,hr',sg⟩:=sB.get hq
   rw [List.getElem?_map] at hr'
   obtain⟨t,ht,rfl⟩:=Option.map_eq_some_iff.mp hr'
   have s25:=s24.trans s5
   have sg5:=sgx (S4.same s5) sg
   refine⟨_,rfl,x,C,dx,_,_,rfl,s25 _ _ x2,T.cl,T.nK,j3 _,_,rfl,kt,qq.1,qq.2,ks,t.ps,t.nm,rfl,.inr (s25 _ _ k2),ok.kn2,sg5.row,sg5.plc,ok.tn t (List.mem_of_getElem? ht),fun tt u H6 h6 h7 s6=>⟨?_,s5.trans s6⟩⟩
   rw [List.take_succ,ht]
   show RdA Any H6 (ys++[.ref tt]) (List.map gb (ts.take i++[t]))
   rw [List.map_append]
   exact(r5.same s6).snoc (.tup trivial h6 (.cons (.str _) (.cons (.tup trivial h7 (RdA.strs _)) .nil)))
  rintro tv H5 hy ⟨r5,s5⟩ D1 hD1
  rw [List.length_map,abl,List.take_length] at r5
  refine⟨D1,tv,rfl,.inl ⟨SqL.of ac,fun tt htt=>?_⟩⟩
  have s6:=(af hD1 (.lst tv)).trans (af htt (.tup tv))
  have s26:=(s24.trans s5).trans s6
  refine⟨_,rfl,x,C,dx,_,rfl,s26 _ _ x2,T.cl,T.nT,vg _,?_⟩
  have tt6:(upd (upd H5 D1 (.lst tv)) tt (.tup tv)) tt=some (.tup tv):=ac
  generalize (upd (upd H5 D1 (.lst tv)) tt (.tup tv))=G6 at s6 s26 tt6
  have ntx:tt≠x:=by rintro rfl; rw [s26 _ _ x2] at tt6; cases tt6
  generalize hG7:upd G6 x (.ins C dx (dw "kept_ties" (.ref tt) (flK kt)))=H7
  have x7:H7 x=some (.ins C dx (flT kt tt)):=by rw [← hG7]; exact ac
  have S67:ay x G6 H7:=by rw [← hG7]; exact ay.upd x G6 _
  have t7:H7 tt=some (.tup tv):=S67 _ _ ntx tt6
  have k7:H7 kt=some (.tup (ks.map V.str)):=S67 _ _ nkx (s26 _ _ k2)
  have S7:ay x H H7:=(S2.same s26).trans S67
  have T67:kZ G6 H7:=fun p xs e=>S67 p _ (fun z=>by rw [z,s26 _ _ x2] at e; cases e) e
  have r7:RdA Any H7 tv (ts.map gb):=(r5.same s6).monoT (fun _ z=>z) T67 (gq ts)
  refine(hC.mono fun o e=>S7 _ _ ncx e).over rfl fun J O=>?_
  intro cl C1 ex s0 H0
  refine O.comp (fun i ys H8=>RdA Any H8 ys ((fs.take i).map gM)∧av H7 H8) ⟨.nil,av.refl _⟩ (by rw [List.length_map]; exact Nat.le_trans (show cd.length≤8 by omega) (by decide)) (fun i ys H8 _ ⟨_,z⟩ o e=>z c o e) ?_ ?_
  ·rintro i y ys H8 hi hy ⟨r8,s8⟩
   rw [List.getElem?_map] at hi
   obtain⟨qq,hq,rfl⟩:=Option.map_eq_some_iff.mp hi
   obtain⟨r,hr',sg⟩:=sC.get hq
   rw [List.getElem?_map] at hr'
   obtain⟨t,ht,rfl⟩:=Option.map_eq_some_iff.mp hr'
   have sg8:=sgx (S7.same s8) sg
   obtain⟨o1,o2,o3,o4⟩:=ok.fn t (List.mem_of_getElem? ht)
   refine⟨_,rfl,x,C,dx,_,_,rfl,s8 _ _ x7,T.cl,T.nK,j2 _ _,_,rfl,kt,qq.1,qq.2,ks,t.ps,t.nm,t.kd,rfl,.inr (s8 _ _ k7),ok.kn2,sg8.row,sg8.plc,⟨o1,o2,o3⟩,o4,fun tt u H9 h6 h7 s9=>⟨?_,s8.trans s9⟩⟩
   rw [List.take_succ,ht]
   show RdA Any H9 (ys++[.ref tt]) (List.map gM (fs.take i++[t]))
   rw [List.map_append]
   exact(r8.same s9).snoc (.tup trivial h6 (.cons (.str _) (.cons (.tup trivial h7 (RdA.strs _)) (.cons (.str _) .nil))))
  rintro fv H8 hy2 ⟨r8,s8⟩ D2 hD2
  rw [List.length_map,cdl,List.take_length] at r8
  refine⟨D2,fv,rfl,.inl ⟨SqL.of ac,fun ft hft=>?_⟩⟩
  have s9:=s8.trans ((af hD2 (.lst fv)).trans (af hft (.tup fv)))
  have r9:=r8.same ((af hD2 (.lst fv)).trans (af hft (.tup fv)))
  refine⟨_,rfl,x,C,dx,_,rfl,s9 _ _ x7,T.cl,T.nF,vd _ _,?_⟩
  have ft9:(upd (upd H8 D2 (.lst fv)) ft (.tup fv)) ft=some (.tup fv):=ac
  generalize (upd (upd H8 D2 (.lst fv)) ft (.tup fv))=G9 at s9 r9 ft9
  have nfx:ft≠x:=by rintro rfl; rw [s9 _ _ x7] at ft9; cases ft9
  generalize hG10:upd G9 x (.ins C dx (dw "kept_functions" (.ref ft) (flT kt tt)))=HA
  have xA:HA x=some (.ins C dx (flF kt tt ft)):=by rw [← hG10]; exact ac
  have S9A:ay x G9 HA:=by rw [← hG10]; exact ay.upd x G9 _
  have T9A:kZ G9 HA:=fun p xs e=>S9A p _ (fun z=>by rw [z,s9 _ _ x7] at e; cases e) e
  have tA:HA tt=some (.tup tv):=S9A _ _ ntx (s9 _ _ t7)
  have fA:HA ft=some (.tup fv):=S9A _ _ nfx ft9
  have kA:HA kt=some (.tup (ks.map V.str)):=S9A _ _ nkx (s9 _ _ k7)
  have rtA:RdA Any HA tv (ts.map gb):=(r7.same s9).monoT (fun _ z=>z) T9A (gq ts)
  have rfA:RdA Any HA fv (fs.map gM):=r9.monoT (fun _ z=>z) T9A (jo fs)
  have SA:ay x H HA:=(S7.same s9).trans S9A
  have tvl:tv.length=ts.length:=by rw [rtA.length,List.length_map]
  have fvl:fv.length=fs.length:=by rw [rfA.length,List.length_map]
  have small:tv.length+fv.length≤sizeLine:=Nat.le_trans (show tv.length+fv.length≤8 by omega) (by decide)
  refine⟨_,rfl,x,C,dx,_,_,rfl,xA,T.cl,T.nT,mE _ _ _,_,rfl,x,C,dx,_,_,rfl,xA,T.cl,T.nF,mF _ _ _,?_⟩
  refine oC tA fA small fun p HB hp sB'=>?_
  refine⟨p,rfl,⟨_,SqT.of hp⟩,?_⟩
  have rB:RdA Any HB (tv++fv) (ts.map gb++fs.map gM):=(rtA.append rfA).same sB'
  intro cl C1 ex s0 H0
  refine df (tv++fv).length (fun i ys HC=>ys=(((ts.map gb++fs.map gM).map nmD).take i).map V.str∧av HB HC) (fun i y=>(tv++fv)[i]? = some y) ⟨rfl,av.refl _⟩ (by rw [List.length_append]; exact small) (fun i ys HC hi _ ⟨_,z⟩=>kR (SqT.of (z _ _ hp)) hi) (fun ys HC _ ⟨_,z⟩=>iT (SqT.of (z _ _ hp))) ?_ ?_
  ·rintro i y ys HC hi hy _ ⟨rfl,sC'⟩
   obtain⟨d,hd,rd⟩:=rB.getV hy
   obtain⟨rr,e⟩:=uG (List.mem_of_getElem? hd)
   rw [e] at rd
   obtain⟨py,px,rfl,_,hpy,hpx⟩:=rd.tuple_inv
   cases hpx with | cons a1 t1=>
   obtain rfl:=a1.str_inv
   refine⟨_,rfl,py,_,_,_,rfl,rfl,SqT.of (sC' _ _ hpy),eP (x:=V.str (nmD d)) (by decide) rfl,?_,sC'⟩
   rw [List.take_succ,List.getElem?_map,hd]
   exact(List.map_append (l₂:=[nmD d])).symm
  rintro ys HC hyl ⟨rfl,sC'⟩ D3 hD3
  have el:(((ts.map gb++fs.map gM).map nmD).take (tv++fv).length)=ts.map (·.nm)++fs.map (·.nm):=by
   rw [List.map_append,u4,u5,List.take_of_length_le]
   simp [tvl,fvl]
  rw [el]
  refine⟨D3,_,rfl,.inl ac,ok.sn,by simp; omega,fun HD sD=>?_⟩
  have sAD:av HA HD:=(sB'.trans sC').trans ((af hD3 _).trans sD)
  refine q HD ⟨dx,kt,tt,ft,tv,fv,sAD _ _ xA,sAD _ _ kA,sAD _ _ tA,rtA.same sAD,sAD _ _ fA,rfA.same sAD⟩ (SA.same sAD)
end
end Few
namespace L2
open PySem PySem.Spec PyProof.Rows
theorem tf {A:Around} {k:Nat} (hr:bN k A):A.units+2<cLine:=Nat.lt_of_le_of_lt (Nat.add_le_add_left (by decide:2≤64) _) hr.units
theorem mP {J:It} {wi2:TI} {tc:TT} {te:TE} {σ:St} {H:Hp} {Q:VK} (n:Nat) (Pv:Nat→List V→Hp→Prop) (Vx:Nat→V→Prop) (h0:Pv 0 [] H) (hgo:∀ i ys H,i<n→Pv i ys H→J.go i H∧∀ x H',J.yld i H x H'→H'=H∧Vx i x) (hstop:∀ ys H,Pv n ys H→J.stop n H)
  (hs:∀ i x ys H v1,i<n→Vx i x→Pv i ys H→wi2 (some x::v1::σ) H fun J2 H3=>∃ (k:Nat) (Pw:Nat→List V→Hp→Prop) (Vy:Nat→V→Prop),Pw 0 ys H3∧(∀ j zs H4,Pw j zs H4→zs.length<sizeLine)∧
   (∀ j zs H4,j<k→Pw j zs H4→J2.go j H4∧∀ y H',J2.yld j H4 y H'→H'=H4∧Vy j y)∧(∀ zs H4,Pw k zs H4→J2.stop k H4∧Pv (i+1) zs H4)∧
   (∀ j y zs H4,j<k→Vy j y→Pw j zs H4→tc (some x::some y::σ) H4 fun b H5=>if b=true then te (some x::some y::σ) H5 fun v H6=>Pw (j+1) (zs++[v]) H6 else Pw (j+1) zs H5))
  (hd:∀ ys H,Pv n ys H→∀ D,H D=none→Q (.ref D) (upd H D (.lst ys)))
  (htc:∀ σ H (Q Q':Bool→Hp→Prop),tc σ H Q→(∀ b H',Q b H'→Q' b H')→tc σ H Q') (hwi:∀ σ H (Q Q':It→Hp→Prop),wi2 σ H Q→(∀ b H',Q b H'→Q' b H')→wi2 σ H Q'):lq 2 J (dQ 0) wi2 (dQ 1) tc te σ H Q:=by
 refine⟨fun i m ys σ' H=>i≤n∧m=n-i∧Pv i ys H∧∃ v0 v1,σ'=v0::v1::σ,⟨n,Nat.zero_le _,rfl,h0,none,none,rfl⟩,?_⟩
 rintro i m ys σ' H1 ⟨hi,rfl,p,v0,v1,rfl⟩
 by_cases hlt:i<n
 ·obtain⟨g1,g2⟩:=hgo i ys H1 hlt p
  refine .inr ⟨g1,fun x H' y=>?_⟩
  obtain⟨rfl,vx⟩:=g2 x H' y
  refine hwi _ _ _ _ (hs i x ys H' v1 hlt vx p) ?_
  rintro J2 H3 ⟨k,Pw,Vy,p0,hz,go2,stop2,step⟩
  refine⟨fun j l zs σ4 H4=>j≤k∧l=k-j∧Pw j zs H4∧∃ v1,σ4=some x::v1::σ,⟨k,Nat.zero_le _,rfl,p0,v1,rfl⟩,?_⟩
  rintro j l zs σ4 H4 ⟨hj,rfl,q,w1,rfl⟩
  refine⟨Nat.le_of_lt (hz j zs H4 q),?_⟩
  by_cases hjk:j<k
  ·obtain⟨a1,a2⟩:=go2 j zs H4 hjk q
   refine .inr ⟨a1,hz j zs H4 q,fun y H' yl=>?_⟩
   obtain⟨rfl,vy⟩:=a2 y H' yl
   refine htc _ _ _ _ (step j y zs H' hjk vy q) ?_
   intro b H5 hb
   cases b with
   | true=>
    rw [if_pos rfl] at hb ⊢
    exact⟨_,hb,fun v H7 e=>⟨k - (j+1),by omega,hjk,rfl,e,_,rfl⟩⟩
   | false=>
    rw [if_neg Bool.false_ne_true] at hb ⊢
    exact⟨k - (j+1),by omega,hjk,rfl,hb,_,rfl⟩
  ·have e:j=k:=by omega
   subst e
   obtain⟨s1,s2⟩:=stop2 zs H4 q
   exact .inl ⟨s1,n - (i+1),by omega,hlt,rfl,s2,_,_,rfl⟩
 ·have e:i=n:=by omega
  subst e
  exact .inl ⟨hstop ys H1 p,hd ys H1 p⟩
theorem qS {σ:St} {H:Hp} {Q:Bool→Hp→Prop} (h:Q true H):um σ H Q:=h
theorem lw:∀ σ H (Q Q':Bool→Hp→Prop),um σ H Q→(∀ b H',Q b H'→Q' b H')→um σ H Q':=fun _ _ _ _ h k=>k _ _ h
end L2
namespace Few
open PySem L2
def dN (n:Nat) (rows:List (List Int)):List (List Int):=rows.flatMap fun r=>(upN n).map fun t=>r++[t]
def cP (ns:List Nat):List (List Int):=ns.foldl (fun rows n=>dN n rows) [[]]
theorem iu (ns:List Nat) (n:Nat):cP (ns++[n])=dN n (cP ns):=by unfold cP; rw [List.foldl_append]; rfl
theorem cJ (n:Nat):(upN n).length=n:=by unfold upN; simp
theorem dJ (n:Nat) (rows:List (List Int)):(dN n rows).length=rows.length*n:=by
 unfold dN
 induction rows with
 | nil=>simp
 | cons r rs ih=>rw [List.flatMap_cons,List.length_append,ih,List.length_map,cJ,List.length_cons,Nat.add_mul,Nat.one_mul,Nat.add_comm]
theorem tj {n m:Nat} {rows:List (List Int)} (h:∀ r∈rows,r.length=m):∀ r∈dN n rows,r.length=m+1:=fun r hr=>by
 obtain⟨q,hq,hr⟩:=List.mem_flatMap.mp hr
 obtain⟨t,_,rfl⟩:=List.mem_map.mp hr
 rw [List.length_append,h q hq]; rfl
theorem gz:∀ (ns:List Nat) (m:Nat) (rows:List (List Int)),(∀ r∈rows,r.length=m)→∀ r∈ns.foldl (fun rows n=>dN n rows) rows,r.length=m+ns.length
 | [],_,_,h,r,hr=>h r hr
 | n::ns,m,rows,h,r,hr=>by
  have:=gz ns (m+1) (dN n rows) (tj h) r hr
  rw [this,List.length_cons]; omega
theorem i3 {ns:List Nat} {r:List Int} (hr:r∈cP ns):r.length=ns.length:=by
 have:=gz ns 0 [[]] (fun r hr=>by rw [List.mem_singleton.mp hr]; rfl) r hr
 omega
def many (ks:List Str) (ns:List Nat) (k:Str):Nat:=ns.getD (ks.idxOf k) 0
structure ci (ks:List Str) (ns:List Nat):Prop where
 len:ns.length=ks.length
 one:∀ n∈ns,1≤n
 four:∀ n∈ns,n≤4
theorem ci.many {ks:List Str} {ns:List Nat} (ok:ci ks ns) {k:Str} (hk:k∈ks):1≤many ks ns k∧many ks ns k≤4:=by
 have hi:ks.idxOf k<ns.length:=by rw [ok.len]; exact List.idxOf_lt_length_iff.mpr hk
 have e:Few.many ks ns k=ns[ks.idxOf k]:=by unfold Few.many; rw [List.getD_eq_getElem?_getD,List.getElem?_eq_getElem hi]; rfl
 rw [e]
 exact⟨ok.one _ (List.getElem_mem hi),ok.four _ (List.getElem_mem hi)⟩
def ej (ks:List Str) (ns:List Nat) (ps:List Str):List (List Int):=cP (ps.map (many ks ns))
def tY (ks:List Str) (ns:List Nat) (t:br):List CK:=(ej ks ns t.ps).map fun r=>(t.nm,r)
def tZ (ks:List Str) (ns:List Nat) (t:bt):List CK:=(ej ks ns t.ps).map fun r=>(t.nm,r)
def fQ (ks:List Str) (ns:List Nat) (ts:List br) (fs:List bt):List CK:=ts.flatMap (tY ks ns)++fs.flatMap (tZ ks ns)
theorem dY {ks:List Str} {ns:List Nat} (ok:ci ks ns) {ps:List Str} (hp:∀ p∈ps,p∈ks) (h2:ps.length≤2):(ej ks ns ps).length≤16:=by
 match ps,h2 with
 | [],_=>exact(Nat.le_of_ble_eq_true rfl:(1:Nat)≤16)
 | [a],_=>
  have h:=(ok.many (hp a List.mem_cons_self)).2
  show (dN (many ks ns a) [[]]).length≤16
  rw [dJ]; simp; omega
 | [a,b],_=>
  have h:=(ok.many (hp a List.mem_cons_self)).2
  have h':=(ok.many (hp b (List.mem_cons_of_mem _ List.mem_cons_self))).2
  show (dN (many ks ns b) (dN (many ks ns a) [[]])).length≤16
  rw [dJ,dJ]
  simp
  exact Nat.le_trans (Nat.mul_le_mul h h') (by decide)
theorem kg:∀ {ks:List Str} {ns:List Nat} {k:Str},ns.length=ks.length→k∈ks→iC (dt ks (ns.map fun (n:Nat)=>V.int n)) (.inr k)=some (.int (many ks ns k))
 | [],_,_,_,h=>nomatch h
 | x::ks,[],_,h,_=>by simp at h
 | x::ks,n::ns,k,hl,hk=>by
  by_cases e:x=k
  ·subst e
   have : many (x::ks) (n::ns) x=n:=by simp [many]
   rw [this]
   exact iO rfl
  ·have hk':k∈ks:=by rcases List.mem_cons.mp hk with rfl | h; exact absurd rfl e; exact h
   have : many (x::ks) (n::ns) k=many ks ns k:=by
    unfold many
    rw [List.idxOf_cons]
    have : (x==k)=false:=by simpa using e
    rw [this]; simp
   rw [this]
   show iC ((Sum.inr x,V.int n)::dt ks (ns.map fun (n:Nat)=>V.int n)) (.inr k)=_
   rw [iP (fun z=>e (Sum.inr.inj z))]
   exact kg (by simpa using hl) hk'
abbrev dC (H:Hp):List Addr→List (List Int)→Prop:=Paired fun a r=>H a=some (.tup (r.map V.int))
theorem dC.tups {H H':Hp} (ht:kZ H H') {as:List Addr} {rs:List (List Int)} (h:dC H as rs):dC H' as rs:=Paired.mapP h fun a r e=>ht a _ e
theorem Paired.app {α β:Type} {F:α→β→Prop}:∀ {a c:List α} {b d:List β},Paired F a b→Paired F c d→Paired F (a++c) (b++d)
 | _,_,_,_,.nil,h=>h
 | _,_,_,_,.cons x t,h=>.cons x (Paired.app t h)
theorem Paired.at {α β:Type} {F:α→β→Prop}:∀ {a:List α} {b:List β} {i:Nat} {x:α},Paired F a b→a[i]? = some x→∃ y,b[i]? = some y∧F x y
 | _,_,_,_,.nil,h=>by simp at h
 | _,_,0,_,.cons h _,e=>by simp at e; subst e; exact⟨_,rfl,h⟩
 | _,_,i+1,_,.cons _ t,e=>by simpa using Paired.at (i:=i) t (by simpa using e)
theorem zhl:LD "MOST_THINGS":=by decide +kernel
theorem zhm:LD "NoSize":=by decide +kernel
theorem zhn:LD "bool":=by decide +kernel
theorem zho:LM "bool":=by decide +kernel
theorem zhp:LD "int":=by decide +kernel
theorem zhq:LM "int":=by decide +kernel
theorem zhr:LD "is_whole":=by decide +kernel
theorem zhs:LD "number":=by decide +kernel
theorem zht:LS "number":=by decide +kernel
theorem zhu:LD "signs":=by decide +kernel
theorem zhv:LS "signs":=by decide +kernel
theorem zhw:LD "size":=by decide +kernel
theorem zhx:LS "size":=by decide +kernel
def rE:Option HO→Option (List V)
 | some (.lst xs)=>some xs
 | some (.tup xs)=>some xs
 | _=>none
def rowOf (H:Hp):V→Option (List V)
 | .ref a=>rE (H a)
 | _=>none
theorem rowOf.lt {H:Hp} {v:V} {xs:List V} (h:rowOf H v=some xs):∃ a,v=.ref a∧LT H a xs:=by
 cases v with
 | ref a=>
  refine⟨a,rfl,?_⟩
  replace h:rE (H a)=some xs:=h
  unfold rE at h
  split at h
  ·rename_i e; exact .inl (by rw [e,Option.some.inj h])
  ·rename_i e; exact .inr (by rw [e,Option.some.inj h])
  ·cases h
 | _=>cases h
theorem gf {H:Hp} {a:Addr} {xs:List V} (h:LT H a xs):rowOf H (.ref a)=some xs:=by
 show rE (H a)=some xs
 rcases h with h | h <;> (rw [h]; rfl)
theorem gB {H:Hp} {a:Addr} {kvs:List (Key×V)} (h:H a=some (.dK kvs)):rowOf H (.ref a)=none:=by
 show rE (H a)=none
 rw [h]; rfl
inductive Sh (H:Hp):V→Prop where
 | non:Sh H .non
 | bl (b:Bool):Sh H (.bl b)
 | int (i:Int):Sh H (.int i)
 | str (z:Str):Sh H (.str z)
 | row {a:Addr} {xs:List V} (h:LT H a xs):Sh H (.ref a)
 | dct {a:Addr} {kvs:List (Key×V)} (h:H a=some (.dK kvs)):Sh H (.ref a)
theorem Sh.same {H H':Hp} {v:V} (h:Sh H v) (s:av H H'):Sh H' v:=by
 cases h with
 | non=>exact .non
 | bl b=>exact .bl b
 | int i=>exact .int i
 | str z=>exact .str z
 | row h=>exact .row (h.same s)
 | dct h=>exact .dct (s _ _ h)
theorem Sh.rows {H H':Hp} {v:V} (h:Sh H v) (s:av H H'):rowOf H' v=rowOf H v:=by
 cases h with
 | non=>rfl
 | bl b=>rfl
 | int i=>rfl
 | str z=>rfl
 | row h=>rw [gf h,gf (h.same s)]
 | dct h=>rw [gB h,gB (s _ _ h)]
theorem Sh.isi2 {K:PySem.W.Frag} {H:Hp} {v:V} (h:Sh H v):∃ t,eY K H v t∧PySem.W.kitAny K t [.type "list",.type "tuple"]=some (rowOf H v).isSome:=by
 cases h with
 | non=>exact⟨_,.non,rfl⟩
 | bl b=>exact⟨_,.bl b,rfl⟩
 | int i=>exact⟨_,.int i,rfl⟩
 | str z=>exact⟨_,.str z,rfl⟩
 | row h=>
  obtain⟨t,h1,h2⟩:=h.isi2 (K:=K)
  exact⟨t,h1,by rw [gf h]; exact h2⟩
 | dct h=>exact⟨_,.dK h,by rw [gB h]; rfl⟩
def isInt:V→Bool
 | .int _=>true
 | _=>false
def yn:V→Bool
 | .int _=>true
 | .bl _=>true
 | _=>false
def y3:V→Bool
 | .bl _=>true
 | _=>false
theorem Sh.isI {K:PySem.W.Frag} {H:Hp} {v:V} (h:Sh H v):∃ t,eY K H v t∧PySem.W.kitOne K t (.type "int")=some (yn v)∧PySem.W.kitOne K t (.type "bool")=some (y3 v):=by
 cases h with
 | non=>exact⟨_,.non,rfl,rfl⟩
 | bl b=>exact⟨_,.bl b,rfl,rfl⟩
 | int i=>exact⟨_,.int i,rfl,rfl⟩
 | str z=>exact⟨_,.str z,rfl,rfl⟩
 | row h=>
  rcases h with h | h
  ·exact⟨_,.lst h,rfl,rfl⟩
  ·exact⟨_,.tup h,rfl,rfl⟩
 | dct h=>exact⟨_,.dK h,rfl,rfl⟩
abbrev iV:Nat→V:=fun n=>.int n
def oK (H:Hp) (ks:List Str) (v:V):Prop:=∃ ns:List Nat,rowOf H v=some (ns.map iV)∧ci ks ns
def okN:V→Prop
 | .int i=>1≤i∧i≤4
 | _=>False
theorem pz:∀ {xs:List V},(∀ x∈xs,okN x)→∃ ns:List Nat,xs=ns.map iV∧∀ n∈ns,1≤n∧n≤4
 | [],_=>⟨[],rfl,fun _ z=>nomatch z⟩
 | x::r,h=>by
  obtain⟨ns,e2,h2⟩:=pz (xs:=r) fun y hy=>h y (List.mem_cons_of_mem _ hy)
  have hx:=h x List.mem_cons_self
  cases x with
  | int i=>
   obtain⟨h1,h4⟩:=(show 1≤i∧i≤4 from hx)
   refine⟨i.toNat::ns,?_,fun n hn=>?_⟩
   ·rw [e2,List.map_cons]
    show V.int i::_=V.int (i.toNat:Int)::_
    rw [Int.toNat_of_nonneg (by omega)]
   ·rcases List.mem_cons.mp hn with rfl | hn
    ·omega
    ·exact h2 n hn
  | _=>exact(show False from hx).elim
theorem yi {ks:List Str} {ns:List Nat} (o:ci ks ns) {x:V} (h:x∈ns.map iV):okN x:=by
 obtain⟨n,hn,rfl⟩:=List.mem_map.mp h
 have:=o.one n hn
 have:=o.four n hn
 show (1:Int)≤(n:Int)∧(n:Int)≤4
 omega
theorem uZ {kt tt ft:Addr}:(flF kt tt ft).lookup ("ties":Str)=none:=tM (by decide +kernel) (by decide +kernel) (by decide +kernel)
theorem kL {kt tt ft:Addr}:(flF kt tt ft).lookup ("functions":Str)=none:=tM (by decide +kernel) (by decide +kernel) (by decide +kernel)
theorem jh {kt tt ft:Addr}:(flF kt tt ft).lookup ("kinds":Str)=none:=tM (by decide +kernel) (by decide +kernel) (by decide +kernel)
theorem bC.same {C:Addr} {H H':Hp} {x:Addr} {ks:List Str} {ts:List br} {fs:List bt} (h:bC C H x ks ts fs) (s:av H H'):bC C H' x ks ts fs:=h.keep (fun o e=>s x o e) (av.tups s)
section
variable {P:Program} {w:World} {K:PySem.W.Frag} {mg:Str→Option Value} {base:Heap}
def jS:Sp:=fun vs H Q _=>∃ v,vs=[v]∧Sh H v∧∀ H',av H H'→Q (.bl (rowOf H v).isSome) H'
theorem lY (F:aL K mg "is_list" cU ["thing"]) (Z:Bl mg):fY P w K mg base "is_list" 1 ["thing"] jS:=by
 have SC:=zen
 refine F.mkE (k:=0) zen (fun vs H Q E h=>?_) (fun f cdv A outer s H vs Q E hr h=>?_)
 ·obtain⟨v,rfl,_⟩:=h
  rfl
 ·obtain⟨v,rfl,hv,q⟩:=h
  refine'⟨_,?derivation,?_⟩
  case derivation=>refine' am ?Aa;case Aa=>refine' aO ?Ba;case Ba=>refine' aD (hn:=zd0) (hdb:=zdz) (j8 (T:="list") (U:="tuple")) zeo Z.n_isinstance bA ?Ca rfl rfl;case Ca=>refine' aa (pq 0 (ap zeq) zeh zei) ?Da ?Ea;(case Da=>refine' aa ?Fa ae ?Ga;(case Fa=>refine' cj ?Ha;case Ha=>refine' aa ?Ia ?Ja ?Ka;(case Ia=>refine' dS (v:=V.ty "list") (hn:=zbu) (hd:=zbt) zep Z.n_list ei rfl);(case Ja=>refine' aa ?La ae ?Ma;(case La=>refine' dS (v:=V.ty "tuple") (hn:=zem) (hd:=zel) zer Z.n_tuple d8 rfl);case Ma=>rfl);case Ka=>rfl);case Ga=>rfl);case Ea=>rfl
  refine⟨_,rfl,by show 2≤sizeLine; decide,fun t ht=>?_⟩
  have st:=af ht (.tup [.ty "list",.ty "tuple"])
  obtain⟨ty,hty,hk⟩:=(hv.same st).isi2 (K:=K)
  rw [hv.rows st] at hk
  exact⟨_,t,ty,_,rfl,ac,hty,hk,q _ st⟩
abbrev cN:Stmt:=top 16
theorem zhy:aB ["thing"] ["thing"] (ah cN):=⟨rfl,rfl,rfl,by decide +kernel,rfl,by decide +kernel,by decide +kernel⟩
theorem zhz:LN .globalImplicit cN "bool":=by decide +kernel
theorem zh0:LN .globalImplicit cN "int":=by decide +kernel
theorem zh1:LN .globalImplicit cN "isinstance":=by decide +kernel
theorem zh2:LN .local cN "thing":=by decide +kernel
def iW:Sp:=fun vs H Q _=>∃ v,vs=[v]∧Sh H v∧Q (.bl (isInt v)) H
theorem qf (F:aL K mg "is_whole" cN ["thing"]) (Z:Bl mg) (n_bool:mg "bool"=none):fY P w K mg base "is_whole" 1 ["thing"] iW:=by
 have SC:=zhy
 refine F.mkE (k:=0) zhy (fun vs H Q E h=>?_) (fun f cdv A outer s H vs Q E hr h=>?_)
 ·obtain⟨v,rfl,_⟩:=h
  rfl
 ·obtain⟨v,rfl,hv,q⟩:=h
  refine'⟨_,?derivation,?_⟩
  case derivation=>refine' am ?Aa;case Aa=>refine' aO ?Ba;case Ba=>refine' jc ?Ca ?Da;(case Ca=>refine' aD (hn:=zd0) (hdb:=zdz) (fR (T:="int")) zh1 Z.n_isinstance bA ?Ea rfl rfl;case Ea=>refine' aa (pq 0 (ap zh2) zeh zei) ?Fa ?Ga;(case Fa=>refine' aa ?Ha ae ?Ia;(case Ha=>refine' dS (v:=V.ty "int") (hn:=zhq) (hd:=zhp) zh0 Z.n_int xf rfl);case Ia=>rfl);case Ga=>rfl);case Da=>refine' nJ ?Ja;case Ja=>refine' rM ?Ka;case Ka=>refine' aD (hn:=zd0) (hdb:=zdz) (fR (T:="bool")) zh1 Z.n_isinstance bA ?La rfl rfl;case La=>refine' aa (pq 0 (ap zh2) zeh zei) ?Ma ?Na;(case Ma=>refine' aa ?Oa ae ?Pa;(case Oa=>refine' dS (v:=V.ty "bool") (hn:=zho) (hd:=zhn) zhz n_bool vt rfl);case Pa=>rfl);case Na=>rfl
  obtain⟨t,hty,hi,hb⟩:=hv.isI (K:=K)
  refine⟨_,rfl,_,_,_,rfl,hty,hi,?_⟩
  cases v with
  | int i=>exact⟨true,rfl,ifT rfl ⟨_,rfl,_,_,_,rfl,hty,hb,false,rfl,q⟩⟩
  | bl b=>exact⟨true,rfl,ifT rfl ⟨_,rfl,_,_,_,rfl,hty,hb,true,rfl,q⟩⟩
  | _=>exact⟨false,rfl,ifF (by decide) q⟩
abbrev aY:Stmt:=top 21
theorem zh3:aB ["signs","size","number"] ["signs","size"] (ah aY):=⟨rfl,rfl,rfl,by decide +kernel,rfl,by decide +kernel,by decide +kernel⟩
theorem zh4:LN .globalImplicit aY "MOST_THINGS":=by decide +kernel
theorem zh5:LN .globalImplicit aY "NoSize":=by decide +kernel
theorem zh6:LN .globalImplicit aY "is_list":=by decide +kernel
theorem zh7:LN .globalImplicit aY "is_whole":=by decide +kernel
theorem zh8:LN .globalImplicit aY "len":=by decide +kernel
theorem zh9:LN .local aY "number":=by decide +kernel
theorem zia:LN .local aY "signs":=by decide +kernel
theorem zib:LN .local aY "size":=by decide +kernel
def oS (C N:Addr):Sp:=fun vs H Q E=>∃ (x:Addr) (v:V) (ks:List Str) (ts:List br) (fs:List bt),vs=[.ref x,v]∧bC C H x ks ts fs∧Sh H v∧(∀ xs,rowOf H v=some xs→∀ y∈xs,Sh H y)∧(oK H ks v→∀ H',av H H'→Q v H')∧(¬ oK H ks v→∀ H',av H H'→E (.ref N) none H')
theorem si {C N f1:Addr} {fd1:FuncData} (F:aL K mg "checked_size" aY ["signs","size"]) (Z:Bl mg) (T:ClS K C) (O_NoSize:ll K mg "NoSize" N) (GT:∃ u,mg "MOST_THINGS"=some u∧aM (.int 4) u)
  (m_kinds:oJ K C "kinds" f1) (G_kinds:dk P w K mg base CX0 1 f1 fd1 ["self"] (iI C)) (b_kinds:cH K fd1 ["self"] [])
  (D_is_list:fY P w K mg base "is_list" 1 ["thing"] jS) (D_is_whole:fY P w K mg base "is_whole" 1 ["thing"] iW):fY P w K mg base "checked_size" 2 ["signs","size"] (oS C N):=by
 have SC:=zh3
 obtain⟨_,g_MOST_THINGS,r_MOST_THINGS⟩:=GT
 refine F.mkE (k:=1) zh3 (fun vs H Q E h=>?_) (fun f cdv A outer s H vs Q E hr h=>?_)
 ·obtain⟨x,v,ks,ts,fs,rfl,_⟩:=h
  rfl
 ·obtain⟨x,v,ks,ts,fs,rfl,hS,hv,hin,q,no⟩:=h
  obtain⟨dx,_,_,_,_,_,x2,_⟩:=id hS
  have one:1≤sizeLine:=by decide
  refine'⟨_,?derivation,?_⟩
  case derivation=>refine' ak ?Aa ?Ba;(case Aa=>refine' cy ?Ca ?Da bq;(case Ca=>refine' PW.pt ?Ea;case Ea=>refine' eV ?Fa ?Ga;(case Fa=>refine' cf ?Ha;case Ha=>refine' cA ?Ia ?Ja;(case Ia=>refine' fO (hdb:=zdx) bT D_is_list (hr.mono (by decide)) zh6 ?Ka rfl rfl;case Ka=>refine' aa (pq 1 (ap zib) zhw zhx) ae ?La;case La=>rfl);case Ja=>intro _; rfl);case Ga=>refine' dL ?Ma;case Ma=>refine' bO lX ?Na ?Oa (ck _);(case Na=>refine' aD (hn:=zbs) (hdb:=zbr) aV zh8 Z.n_len cC ?Pa rfl rfl;case Pa=>refine' aa (pq 1 (ap zib) zhw zhx) ae ?Qa;case Qa=>rfl);case Oa=>refine' aD (hn:=zbs) (hdb:=zbr) aV zh8 Z.n_len cC ?Ra rfl rfl;case Ra=>refine' aa ?Sa ae ?Ta;(case Sa=>refine' fm (pq 0 (ap zia) zhu zhv) T.cl m_kinds G_kinds (hr.mono (by decide)) b_kinds .nil ix rfl);case Ta=>rfl);case Da=>refine' am ?Ua;case Ua=>refine' i6 (hdb:=zhm) bT rfl O_NoSize zh5 ?Va rfl rfl;case Va=>refine' aa ?Wa ae ?Xa;(case Wa=>exact gh);case Xa=>rfl);case Ba=>refine' ak ?Ya ?Za;(case Ya=>refine' cg dZ rfl ?Ab ?Bb ?Cb ?Db;(case Ab=>refine' i9 (pq 1 (ap zib) zhw zhx));(case Bb=>refine' au (i:=2) (x:=Str.ofString "number") SC.nd rfl (Or.inl zh9) (.inl rfl));(case Cb=>refine' am ?Eb;case Eb=>refine' cy ?Fb ?Gb bq;(case Fb=>refine' PW.pt ?Hb;case Hb=>refine' eV ?Ib ?Jb;(case Ib=>refine' cf ?Kb;case Kb=>refine' cA ?Lb ?Mb;(case Lb=>refine' fO (hdb:=zhr) bT D_is_whole (hr.mono (by decide)) zh7 ?Nb rfl rfl;case Nb=>refine' aa (pq 2 (ap zh9) zhs zht) ae ?Ob;case Ob=>rfl);case Mb=>intro _; rfl);case Jb=>refine' dL ?Pb;case Pb=>refine' cf ?Qb;case Qb=>refine' gD f9 f9 ?Rb (pq 2 (ap zh9) zhs zht) ?Sb ?Tb;(case Rb=>exact aq);(case Sb=>refine' bJ (hd:=zhl) zh4 g_MOST_THINGS r_MOST_THINGS);case Tb=>with_unfolding_all rfl);case Gb=>refine' am ?Ub;case Ub=>refine' i6 (hdb:=zhm) bT rfl O_NoSize zh5 ?Vb rfl rfl;case Vb=>refine' aa ?Wb ae ?Xb;(case Wb=>exact gh);case Xb=>rfl);case Db=>intro _; rfl);case Za=>refine' am ?Yb;case Yb=>refine' aO (pq 1 (ap zib) zhw zhx)
  refine⟨_,rfl,v,rfl,hv,fun H1 s1=>?_⟩
  cases hrow:rowOf H v with
  | none=>exact⟨false,rfl,oh ⟨one,no (fun ⟨ns,z,_⟩=>by rw [z] at hrow; cases hrow) _ s1⟩⟩
  | some xs=>
   refine⟨true,rfl,eX ?_⟩
   obtain⟨a,rfl,hL⟩:=rowOf.lt hrow
   refine⟨_,rfl,a,_,rfl,(hL.same s1).sq,_,rfl,?_⟩
   refine⟨x,dx,_,rfl,s1 _ _ x2,jh,x,ks,ts,fs,rfl,hS.same s1,fun l hl=>?_⟩
   have s2:=s1.trans (af hl (.lst (ks.map V.str)))
   refine⟨l,_,rfl,.inl (SqL.of ac),rfl,_,rfl,?_⟩
   by_cases hlen:xs.length=ks.length
   ·refine ifF (by rw [List.length_map,hlen]; simp) ?_
    generalize hG:upd H1 l (.lst (ks.map V.str))=G at s2
    refine(hL.same s2).over rfl fun J O=>O.loop (fun j σ H2=>∃ v,σ=[some (.ref x),some (.ref a),v]∧av G H2∧∀ y∈xs.take j,okN y) ⟨_,rfl,av.refl _,fun _ z=>by simp at z⟩ (fun j σ H2 _ ⟨_,_,y,_⟩ o e=>y _ _ e) ?_ ?_
    ·rintro i y σ H2 hi ⟨v,rfl,s3,hn⟩
     have hy:Sh H y:=hin xs hrow y (List.mem_of_getElem? hi)
     have bad:¬ okN y→∀ H',av H H'→E (.ref N) none H':=fun hb=>no fun ⟨ns,z,o⟩=>hb (by
      rw [hrow] at z; cases z
      exact yi o (List.mem_of_getElem? hi))
     have next:okN y→∀ z∈xs.take (i+1),okN z:=fun hb z hz=>by
      rw [List.take_succ,hi] at hz
      rcases List.mem_append.mp hz with h | h
      ·exact hn z h
      ·have e:z=y:=List.mem_singleton.mp h
       rw [e]; exact hb
     refine⟨_,rfl,y,rfl,hy.same (s2.trans s3),?_⟩
     cases y with
     | int n=>
      refine⟨true,rfl,eX ?_⟩
      refine⟨_,rfl,_,_,rfl,rfl,_,rfl,?_⟩
      by_cases h1:1≤n
      ·refine ifT (decide_eq_true h1) ?_
       refine⟨_,_,rfl,rfl,_,rfl,?_⟩
       by_cases h4:n≤4
       ·exact ifF (by simp; omega) ⟨_,rfl,s3,next ⟨h1,h4⟩⟩
       ·exact ifT (by simp; omega) ⟨one,bad (fun z=>h4 z.2) _ (s2.trans s3)⟩
      ·exact ifF (by simp; omega) ⟨false,rfl,oh ⟨one,bad (fun z=>h1 z.1) _ (s2.trans s3)⟩⟩
     | _=>exact⟨false,rfl,oh ⟨one,bad (fun z=>z) _ (s2.trans s3)⟩⟩
    ·rintro σ H2 ⟨v,rfl,s3,hn⟩
     rw [List.take_length] at hn
     obtain⟨ns,rfl,hk⟩:=pz hn
     rw [List.length_map] at hlen
     exact⟨_,rfl,q ⟨ns,hrow,hlen,fun n h=>(hk n h).1,fun n h=>(hk n h).2⟩ _ (s2.trans s3)⟩
   ·refine ifT (by rw [List.length_map]; simp; omega) ⟨one,no (fun ⟨ns,z,o⟩=>hlen ?_) _ s2⟩
    rw [hrow] at z; cases z
    rw [List.length_map]; exact o.len
end
theorem zic:LD "many_things":=by decide +kernel
theorem zid:LS "many_things":=by decide +kernel
theorem zie:LD "row":=by decide +kernel
theorem zif:LS "row":=by decide +kernel
theorem zig:LD "rows":=by decide +kernel
theorem zih:LS "rows":=by decide +kernel
section
variable {P:Program} {w:World} {K:PySem.W.Frag} {mg:Str→Option Value} {base:Heap}
abbrev du:Stmt:=top 22
theorem zii:aB ["many_things","places","rows","kind"] ["many_things","places"] (ah du):=⟨rfl,rfl,rfl,by decide +kernel,rfl,by decide +kernel,by decide +kernel⟩
theorem zij:LN .cell du "kind":=by decide +kernel
theorem zik:LN .local du "places":=by decide +kernel
theorem zil:LN .local du "rows":=by decide +kernel
abbrev QS7:Scope:={kind:=PySem.ScopeKind.function,names:=[ (PySem.Str.ofString ".0",PySem.NameKind.local),(PySem.Str.ofString "row",PySem.NameKind.local),(PySem.Str.ofString "thing",PySem.NameKind.local),(PySem.Str.ofString "range",PySem.NameKind.globalImplicit),(PySem.Str.ofString "kind",PySem.NameKind.free),(PySem.Str.ofString "many_things",PySem.NameKind.free)],isGenerator:=false,isCoroutine:=false,more:=[]:PySem.Scope}
theorem zim:cw 2 ["row","thing","many_things","places","rows","kind"] ["many_things","places","rows","kind"] (ah du) QS7:=⟨rfl,by decide +kernel,by decide +kernel,by decide +kernel,by decide +kernel,rfl,by decide +kernel⟩
theorem zin:LC .free QS7 "kind":=by decide +kernel
theorem zio:LC .free QS7 "many_things":=by decide +kernel
theorem ziq:LC .globalImplicit QS7 "range":=by decide +kernel
theorem zir:LC .local QS7 "row":=by decide +kernel
theorem zis:LC .local QS7 "thing":=by decide +kernel
def lF:Sp:=fun vs H Q _=>∃ (d a:Addr) (ks ps:List Str) (ns:List Nat),vs=[.ref d,.ref a]∧H d=some (.dK (dt ks (ns.map iV)))∧H a=some (.tup (ps.map V.str))∧(∀ p∈ps,p∈ks)∧ci ks ns∧ps.length≤2∧
 ∀ l as H',H l=none→H' l=some (.lst (as.map V.ref))→dC H' as (ej ks ns ps)→av H H'→Q (.ref l) H'
theorem nR (F:aL K mg "rows_of" du ["many_things","places"]) (Z:Bl mg):Def P w K mg base "rows_of" 1 ["many_things","places"] lF:=by
 have SC:=zii
 refine F.mk' (k:=0) zii (fun vs H Q E h=>?_) (fun f cdv A outer s H vs Q E hr h=>?_)
 ·obtain⟨d,a,ks,ps,ns,rfl,_⟩:=h
  rfl
 ·obtain⟨d,a,ks,ps,ns,rfl,hd,ha,hin,ok,h2,q⟩:=h
  refine'⟨_,?derivation,?_⟩
  case derivation=>refine' ak ?Aa ?Ba;(case Aa=>refine' bc (i:=2) (x:=Str.ofString "rows") ?Ca ?Da ?Ea ?Fa ?Ga ?Ha;(case Ca=>exact SC.nd);(case Da=>exact rfl);(case Ea=>exact(Or.inl zil));(case Fa=>refine' aU ?Ia;case Ia=>refine' aa ?Ja ae ?Ka;(case Ja=>refine' cj ae);case Ka=>rfl);(case Ga=>rfl);case Ha=>exact .inl rfl);case Ba=>refine' ak ?La ?Ma;(case La=>refine' cg PassesOwn.never rfl ?Na ?Oa ?Pa ?Qa;(case Na=>refine' kD (pq 1 (ap zik) zd9 zea));(case Oa=>refine' au (i:=3) (x:=Str.ofString "kind") SC.nd rfl (Or.inr zij) (.inl rfl));(case Pa=>refine' am ?Ra;case Ra=>refine' iw (i:=2) (x:=Str.ofString "rows") SC.nd rfl (Or.inl zil) rfl gF rfl zim.at ?Sa ?Ta ?Ua ?Va ?Wa ?Xa ?Ya ?Za (.inl rfl);(case Sa=>refine' bn (pq 2 (ap zil) zig zih));(case Ta=>intro _ _ _ _ _;refine' au (i:=0) zim.nd rfl (eL zir) (.inr (lookup_relabel_local zir)));(case Ua=>intro _ _ _ _ _;refine' eF (glO ziq) Z.n_range ?Ab rfl;case Ab=>refine' aa ?Bb ae ?Cb;(case Bb=>refine' ph (vY hr) (pq 2 (eZ zio) zic zid) (pq 5 (eZ zin) zd1 zd2) ?Db;case Db=>intro _ _;exact rfl);case Cb=>rfl);(case Va=>intro _ _ _ _ _;refine' au (i:=1) zim.nd rfl (eL zis) (.inr (lookup_relabel_local zis)));(case Wa=>intro _ _ _ _ _;exact pb);(case Xa=>intro _ _ _ _ _;refine' bW jf (pq 0 (eW zir) zie zif) ?Eb;case Eb=>refine' cj ?Fb;case Fb=>refine' aa (pq 1 (eW zis) zeh zei) ae ?Gb;case Gb=>rfl);(case Ya=>intro _; rfl);case Za=>intro _ _ _ _ _ _; rfl);case Qa=>intro _; rfl);case Ma=>refine' am ?Hb;case Hb=>refine' aO (pq 2 (ap zil) zig zih)
  refine⟨by show 0≤sizeLine; decide,fun t ht=>⟨by show 1≤sizeLine; decide,fun l0 hl0=>?_⟩⟩
  have s1:av H (upd (upd H t (.tup [])) l0 (.lst [.ref t])):=(af ht _).trans (af hl0 _)
  have et:(upd (upd H t (.tup [])) l0 (.lst [.ref t])) t=some (.tup []):=af hl0 _ _ _ ac
  have el:(upd (upd H t (.tup [])) l0 (.lst [.ref t])) l0=some (.lst [.ref t]):=ac
  have fl:H l0=none:=(af ht (.tup [])).free hl0
  generalize (upd (upd H t (.tup [])) l0 (.lst [.ref t]))=G at s1 et el
  refine⟨_,rfl,a,rfl,⟨_,SqT.of (s1 _ _ ha)⟩,vc (K:=K) (a:=a) (xs:=ps.map V.str) (fun i σ H2=>∃ (l:Addr) (as:List Addr) (v3:Option V),σ=[some (.ref d),some (.ref a),some (.ref l),v3]∧av H H2∧H l=none∧H2 l=some (.lst (as.map V.ref))∧dC H2 as (cP ((ps.take i).map (many ks ns))))
   ⟨l0,[t],none,rfl,s1,fl,el,.cons et .nil⟩ (fun i σ H2 _ ⟨_,_,_,_,z,_⟩=>SqT.of (z _ _ ha)) ?_ ?_⟩
  ·rintro i y σ H2 hi ⟨l,as,v3,rfl,s2,hl,el,hr2⟩
   rw [List.getElem?_map] at hi
   obtain⟨k,hk,rfl⟩:=Option.map_eq_some_iff.mp hi
   have hkk:=hin k (List.mem_of_getElem? hk)
   obtain⟨m1,m4⟩:=ok.many hkk
   generalize hrs:cP ((ps.take i).map (many ks ns))=rs at hr2
   have rsl:rs.length≤16:=by
    rw [← hrs]
    exact dY ok (fun p hp=>hin p (List.mem_of_mem_take hp)) (by rw [List.length_take]; omega)
   have asl:as.length=rs.length:=Paired.length hr2
   have enx:cP ((ps.take (i+1)).map (many ks ns))=dN (many ks ns k) rs:=by
    rw [List.take_succ,hk,← hrs,← iu]
    show cP (List.map (many ks ns) (ps.take i++[k]))=_
    rw [List.map_append]; rfl
   have hg:∀ H3,av H2 H3→lm H3 d (.str k) (some (.int (many ks ns k))):=fun H3 s3=>by
    have:=lm.k (k:=.inr k) (s3 _ _ (s2 _ _ hd))
    rw [kg ok.len hkk] at this
    exact this
   generalize many ks ns k=N at m1 m4 enx hg
   refine⟨_,rfl,l,rfl,⟨_,SqL.of el⟩,fun cl C ex s0 Hc=>mP as.length (fun i' ys H3=>∃ bs:List Addr,ys=bs.map V.ref∧av H2 H3∧dC H3 bs (dN N (rs.take i'))) (fun i' x=>(as.map V.ref)[i']? = some x) ⟨[],rfl,av.refl _,.nil⟩
    (fun i' ys H3 hi' ⟨_,_,s3,_⟩=>dU (SqL.of (s3 _ _ el)) (by rw [List.length_map]; exact hi')) (fun ys H3 ⟨_,_,s3,_⟩=>by have:=cQ (K:=K) (SqL.of (K:=K) (s3 _ _ el)); rw [List.length_map] at this; exact this) ?_ ?_ lw ?_⟩
   ·rintro i' x ys H3 v1 hi' hx ⟨bs,rfl,s3,r3⟩
    rw [List.getElem?_map] at hx
    obtain⟨ra,hra,rfl⟩:=Option.map_eq_some_iff.mp hx
    obtain⟨r,hr',er⟩:=Paired.at hr2 hra
    have bsl:bs.length≤64:=by
     rw [Paired.length r3,dJ,List.length_take]
     exact Nat.le_trans (Nat.mul_le_mul (Nat.le_trans (Nat.min_le_right _ _) rsl) m4) (by decide)
    have esucc:dN N (rs.take (i'+1))=dN N (rs.take i')++(upN N).map fun t=>r++[t]:=by
     rw [List.take_succ,hr']
     unfold dN
     rw [List.flatMap_append]
     simp
    refine⟨_,rfl,_,rfl,d,_,rfl,hg H3 s3,N,rfl,by omega,by omega,?_⟩
    refine⟨N,fun j zs H4=>∃ cs:List Addr,zs=cs.map V.ref∧av H2 H4∧j≤N∧dC H4 cs (dN N (rs.take i')++((upN N).take j).map fun t=>r++[t]),fun j y=>y=.int (0+(j:Int)),⟨bs,rfl,s3,Nat.zero_le _,by simpa using r3⟩,?_,?_,?_,?_⟩
    ·rintro j zs H4 ⟨cs,rfl,s4,hj,r4⟩
     have e:=Paired.length r4
     have e3:=Paired.length r3
     rw [List.length_append,List.length_map,List.length_take,cJ] at e
     rw [List.length_map]
     exact Nat.lt_of_le_of_lt (show cs.length≤100 by omega) (by decide)
    ·rintro j zs H4 hj _
     exact ow (lo:=0) (n:=(N:Int).toNat) (by omega)
    ·rintro zs H4 ⟨cs,rfl,s4,_,r4⟩
     refine⟨by have:=iU (lo:=0) (n:=(N:Int).toNat) (H:=H4); rwa [Int.toNat_natCast] at this ⊢,cs,rfl,s4,?_⟩
     rw [esucc]
     rw [List.take_of_length_le (l:=upN N) (by rw [cJ]; exact Nat.le_refl _)] at r4
     exact r4
    ·rintro j y zs H4 hj rfl ⟨cs,rfl,s4,_,r4⟩
     refine qS ?_
     refine ifT rfl ?_
     refine⟨_,rfl,_,rfl,by show 1≤sizeLine; decide,fun p hp=>?_⟩
     have s5:=af hp (.tup [V.int (0+(j:Int))])
     have eN:(upN N).take (j+1)=(upN N).take j++[(j:Int)]:=by
      rw [List.take_succ]
      congr 1
      unfold upN
      rw [List.getElem?_map,List.getElem?_range hj]; rfl
     refine oC (s5 _ _ (s4 _ _ er)) ac (Nat.le_trans (show _≤100 from ?_) (by decide)) fun p2 H6 hp2 s6=>⟨cs++[p2],by simp,s4.trans (s5.trans s6),hj,?_⟩
     ·rw [List.length_map]
      have:=i3 (by rw [hrs]; exact List.mem_of_getElem? hr':r∈cP ((ps.take i).map (many ks ns)))
      rw [this,List.length_map,List.length_take]
      show min i ps.length+1≤100
      omega
     ·rw [eN,List.map_append,← List.append_assoc]
      refine Paired.app (dC.tups (av.tups (s5.trans s6)) r4) (.cons ?_ .nil)
      rw [hp2,List.map_append]
      simp
   ·rintro ys H3 ⟨bs,rfl,s3,r3⟩ D hD
    refine⟨D,bs,_,rfl,(s2.trans s3).trans (af hD _),(s2.trans s3).free hD,ac,?_⟩
    rw [enx]
    rw [asl,List.take_length] at r3
    exact r3.tups (av.tups (af hD _))
   ·rintro σ' H' Q1 Q2 ⟨v,e1,v',e2,a',u',e3,g3,j',e4,b1,b2,h5⟩ k5
    exact⟨v,e1,v',e2,a',u',e3,g3,j',e4,b1,b2,k5 _ _ h5⟩
  ·rintro σ H2 ⟨l,as,v3,rfl,s2,hl,el,hr2⟩
   refine⟨_,rfl,q l as H2 hl el ?_ s2⟩
   rw [List.length_map,List.take_length] at hr2
   exact hr2
end
def vT (ks:List Str) (ns:List Nat) (t:br):List (CK×Nat):=(ej ks ns t.ps).map fun r=>((t.nm,r),2)
def vF (ks:List Str) (ns:List Nat) (t:bt):List (CK×Nat):=(ej ks ns t.ps).map fun r=>((t.nm,r),many ks ns t.kd)
def cu (ks:List Str) (ns:List Nat) (ts:List br) (fs:List bt):List (CK×Nat):=ts.flatMap (vT ks ns)++fs.flatMap (vF ks ns)
theorem ji {α β γ:Type} (f:α→List β) (g:β→γ):∀ l:List α,(l.flatMap f).map g=l.flatMap fun x=>(f x).map g
 | []=>rfl
 | x::r=>by rw [List.flatMap_cons,List.flatMap_cons,List.map_append,ji f g r]
theorem fH (ks:List Str) (ns:List Nat) (ts:List br) (fs:List bt):(cu ks ns ts fs).map (·.1)=fQ ks ns ts fs:=by
 unfold cu fQ
 rw [List.map_append,ji,ji]
 congr 1
 ·congr 1; funext t; unfold vT tY; rw [List.map_map]; rfl
 ·congr 1; funext t; unfold vF tZ; rw [List.map_map]; rfl
theorem pQ (n:Nat):(upN n).Nodup:=by
 unfold upN
 exact List.Pairwise.map _ (fun a b (h:a≠b) e=>h (Int.ofNat.inj e)) List.nodup_range
theorem ou {n:Nat} {rows:List (List Int)} (h:rows.Nodup):(dN n rows).Nodup:=by
 unfold dN
 refine List.pairwise_flatMap.mpr ⟨fun r _=>?_,?_⟩
 ·refine List.Pairwise.map _ (fun a b (hab:a≠b) e=>hab ?_) (pQ n)
  have:=List.append_cancel_left e
  simpa using this
 ·refine List.Pairwise.imp ?_ h
  intro a b hab x hx y hy e
  obtain⟨t,_,rfl⟩:=List.mem_map.mp hx
  obtain⟨u,_,rfl⟩:=List.mem_map.mp hy
  exact hab (List.append_inj_left' e rfl)
theorem fk:∀ (ns:List Nat) (rows:List (List Int)),rows.Nodup→(ns.foldl (fun rows n=>dN n rows) rows).Nodup
 | [],_,h=>h
 | n::ns,rows,h=>fk ns (dN n rows) (ou h)
theorem kr (ks:List Str) (ns:List Nat) (ps:List Str):(ej ks ns ps).Nodup:=fk _ [[]] (by simp)
theorem ir {α:Type} (nm:α→Str) (ps:α→List Str) (ks:List Str) (ns:List Nat):∀ {l:List α},(l.map nm).Nodup→(l.flatMap fun t=>(ej ks ns (ps t)).map fun r=>(nm t,r)).Nodup
 | l,h=>by
  refine List.pairwise_flatMap.mpr ⟨fun t _=>List.Pairwise.map _ (fun a b (hab:a≠b) e=>hab (Prod.mk.inj e).2) (kr ks ns _),?_⟩
  refine List.Pairwise.imp ?_ (List.pairwise_map.mp h)
  intro a b hab x hx y hy e
  obtain⟨t,_,rfl⟩:=List.mem_map.mp hx
  obtain⟨u,_,rfl⟩:=List.mem_map.mp hy
  exact hab (Prod.mk.inj e).1
theorem mQ {ks:List Str} {ns:List Nat} {ts:List br} {fs:List bt} (ok:dE ks ts fs):(fQ ks ns ts fs).Nodup:=by
 have h:=List.nodup_append.mp ok.sn
 refine List.nodup_append.mpr ⟨ir br.nm br.ps ks ns h.1,ir bt.nm bt.ps ks ns h.2.1,fun a ha b hb e=>?_⟩
 obtain⟨t,ht,ha⟩:=List.mem_flatMap.mp ha
 obtain⟨u,hu,hb⟩:=List.mem_flatMap.mp hb
 obtain⟨r,_,rfl⟩:=List.mem_map.mp ha
 obtain⟨q,_,rfl⟩:=List.mem_map.mp hb
 exact h.2.2 _ (List.mem_map.mpr ⟨t,ht,rfl⟩) _ (List.mem_map.mpr ⟨u,hu,rfl⟩) (Prod.mk.inj e).1
theorem mD {α β κ:Type} (f:α→List β) (g:β→κ) {l:List α} {i:Nat} {x:α} (hx:l[i]? = some x) {j:Nat} {y:β} (hy:(f x)[j]? = some y) (head tail:List β) (nd:((head++l.flatMap f++tail).map g).Nodup) :
  ¬ g y∈(head++(l.take i).flatMap f++(f x).take j).map g:=by
 have e1:l.flatMap f=(l.take i).flatMap f++(f x++(l.drop (i+1)).flatMap f):=by
  obtain⟨hi,e⟩:=List.getElem?_eq_some_iff.mp hx
  have : l=l.take i++x::l.drop (i+1):=by rw [← e,← List.drop_eq_getElem_cons hi,List.take_append_drop]
  calc l.flatMap f=(l.take i++x::l.drop (i+1)).flatMap f:=by rw [← this]
   _=_:=by rw [List.flatMap_append,List.flatMap_cons]
 have e2:f x=(f x).take j++y::(f x).drop (j+1):=by
  obtain⟨hj,e⟩:=List.getElem?_eq_some_iff.mp hy
  rw [← e,← List.drop_eq_getElem_cons hj,List.take_append_drop]
 have e3:head++l.flatMap f++tail=(head++(l.take i).flatMap f++(f x).take j)++(y::((f x).drop (j+1)++(l.drop (i+1)).flatMap f++tail)):=by
  rw [e1]
  generalize (l.take i).flatMap f=A
  generalize (l.drop (i+1)).flatMap f=B
  conv=>lhs; rw [e2]
  simp [List.append_assoc]
 rw [e3,List.map_append,List.map_cons] at nd
 intro hm
 exact(List.nodup_append.mp nd).2.2 _ hm _ List.mem_cons_self rfl
theorem jk {α β:Type} (f:α→List β) {n:Nat}:∀ {l:List α},(∀ x∈l,(f x).length≤n)→(l.flatMap f).length≤l.length*n
 | [],_=>by simp
 | x::r,h=>by
  rw [List.flatMap_cons,List.length_append,List.length_cons,Nat.add_mul,Nat.one_mul]
  have h1:=h x List.mem_cons_self
  have h2:=jk f (l:=r) fun y hy=>h y (List.mem_cons_of_mem _ hy)
  omega
def jK (cd:CD) (L:List (CK×Nat)):Prop:=cd.map (fun x=>(x.1,x.2.2))=L.map fun p=>(p.1,iV p.2)
theorem jK.keys {cd:CD} {L:List (CK×Nat)} (h:jK cd L):cd.map (·.1)=L.map (·.1):=by
 have:=congrArg (List.map Prod.fst) h
 simpa [List.map_map,Function.comp_def] using this
theorem jK.length {cd:CD} {L:List (CK×Nat)} (h:jK cd L):cd.length=L.length:=by
 have:=congrArg List.length h
 simpa using this
theorem jK.put {cd:CD} {L:List (CK×Nat)} (h:jK cd L) {k:CK} (hk:¬ k∈L.map (·.1)) (q:Addr) (n:Nat):fV cd k q (iV n)=cd++[(k,q,iV n)]∧jK (fV cd k q (iV n)) (L++[(k,n)]):=by
 have e:=rJ (pP (by rw [h.keys]; exact hk)) q (iV n)
 refine⟨e,?_⟩
 rw [e]
 unfold jK at h ⊢
 rw [List.map_append,List.map_append,h]
 rfl
theorem zit:LD "VALUES_OF_TIES":=by decide +kernel
theorem ziu:LD "checked_size":=by decide +kernel
theorem ziv:LD "rows_of":=by decide +kernel
theorem yW:¬ (("many_values":Str)="many_things"):=by decide +kernel
def flM (mt:Addr):List (Str×V):=dw "many_things" (.ref mt) []
def flB (mt mv:Addr):List (Str×V):=dw "many_values" (.ref mv) (flM mt)
theorem oA (mt:Addr):(flM mt).lookup ("many_things":Str)=some (.ref mt):=by unfold flM; rw [bf,if_pos rfl]
theorem gl (mt mv:Addr):(flB mt mv).lookup ("many_things":Str)=some (.ref mt):=by unfold flB; rw [bf,if_neg (fun z=>yW z.symm)]; exact oA mt
theorem gj (mt mv:Addr):(flB mt mv).lookup ("many_values":Str)=some (.ref mv):=by unfold flB; rw [bf,if_pos rfl]
theorem vf (mt:Addr):(flM mt).length<1000:=Nat.lt_of_le_of_lt (cV _ _ _) (by decide)
structure ClB (K:PySem.W.Frag) (C:Addr):Prop where
 cl:Cls K C
 nM:d9 K C "many_things"
 nV:d9 K C "many_values"
def pL (P:Program) (w:World) (CB:Addr) (H:Hp) (x:Addr) (ks:List Str) (ts:List br) (fs:List bt) (ns:List Nat):Prop:=
 ∃ dx mt mv cd,H x=some (.ins CB dx (flB mt mv))∧H mt=some (.dK (dt ks (ns.map iV)))∧H mv=some (bu P w mv cd)∧dO H cd∧jK cd (cu ks ns ts fs)
def b8 (P:Program) (w:World) (mv:Addr) (H:Hp) (L:List (CK×Nat)):Prop:=∃ cd,H mv=some (bu P w mv cd)∧dO H cd∧jK cd L
section
variable {P:Program} {w:World} {mv:Addr} {H H':Hp} {L:List (CK×Nat)}
theorem b8.same (h:b8 P w mv H L) (s:av H H'):b8 P w mv H' L:=let ⟨cd,a,b,c⟩:=h; ⟨cd,s _ _ a,b.keep (av.tups s),c⟩
theorem b8.neT (h:b8 P w mv H L) {a:Addr} {xs:List V} (e:H a=some (.tup xs)):a≠mv:=by
 obtain⟨cd,k,_⟩:=h
 rintro rfl
 rw [k] at e; cases e
theorem b8.neL (h:b8 P w mv H L) {a:Addr} {xs:List V} (e:H a=some (.lst xs)):a≠mv:=by
 obtain⟨cd,k,_⟩:=h
 rintro rfl
 rw [k] at e; cases e
theorem b8.tups (h:b8 P w mv H L) (s:ay mv H H'):kZ H H':=fun a xs e=>s a _ (h.neT e) e
theorem b8.put (h:b8 P w mv H L) {nm:Str} {r:List Int} {ra p:Addr} (n:Nat) (hr:H ra=some (.tup (r.map V.int))) (hk:¬ (nm,r)∈L.map (·.1)) (hl:L.length≤500) (hp:H p=none) :
  ∃ cd,(upd H p (.tup [.str nm,.ref ra])) mv=some (bu P w mv cd)∧dO (upd H p (.tup [.str nm,.ref ra])) cd∧dD (upd H p (.tup [.str nm,.ref ra])) (nm,r) p∧cd.length<sizeLine∧
   ay mv H (upd (upd H p (.tup [.str nm,.ref ra])) mv (bu P w mv (fV cd (nm,r) p (iV n))))∧b8 P w mv (upd (upd H p (.tup [.str nm,.ref ra])) mv (bu P w mv (fV cd (nm,r) p (iV n)))) (L++[((nm,r),n)]):=by
 have s:=af hp (.tup [.str nm,.ref ra])
 obtain⟨cd,k1,k2,k3⟩:=h.same s
 have c:dD (upd H p (.tup [.str nm,.ref ra])) (nm,r) p:=⟨ra,ac,s _ _ hr⟩
 refine⟨cd,k1,k2,c,Nat.lt_of_le_of_lt (by rw [k3.length]; exact hl) (by decide),s.x.trans (ay.upd _ _ _),_,ac,(k2.put c _).keep ((h.same s).tups (ay.upd _ _ _)),(k3.put hk p n).2⟩
end
theorem xq {ks:List Str} {ns:List Nat} (sz:ci ks ns) {t:br} (ht:t.ps.length≤2∧∀ k∈t.ps,k∈ks):(vT ks ns t).length≤16:=by unfold vT; rw [List.length_map]; exact dY sz ht.2 ht.1
theorem xr {ks:List Str} {ns:List Nat} (sz:ci ks ns) {t:bt} (ht:t.ps.length≤2∧∀ k∈t.ps,k∈ks):(vF ks ns t).length≤16:=by unfold vF; rw [List.length_map]; exact dY sz ht.2 ht.1
theorem kH {α:Type} {f:α→List (CK×Nat)} {l:List α} (h:∀ x∈l,(f x).length≤16) (h8:l.length≤8) (i:Nat):((l.take i).flatMap f).length≤128:=by
 refine Nat.le_trans (jk f fun x hx=>h x (List.mem_of_mem_take hx)) ?_
 rw [List.length_take]
 exact Nat.le_trans (Nat.mul_le_mul_right 16 (Nat.le_trans (Nat.min_le_right _ _) h8)) (by decide)
theorem ic {α β:Type} {f:α→List β} {l:List α} {i:Nat} {x:α} (h:l[i]? = some x):(l.take (i+1)).flatMap f=(l.take i).flatMap f++f x:=by
 rw [List.take_succ,h,List.flatMap_append]; simp
section
variable {P:Program} {w:World} {K:PySem.W.Frag} {mg:Str→Option Value} {base:Heap}
abbrev aE:Stmt:=gJ (top 20) 0
theorem ziw:aB ["self","signs","size","name","places","row","kind"] ["self","signs","size"] (ah aE):=⟨rfl,rfl,rfl,by decide +kernel,rfl,by decide +kernel,by decide +kernel⟩
theorem zix:LN .globalImplicit aE "VALUES_OF_TIES":=by decide +kernel
theorem ziy:LN .globalImplicit aE "checked_size":=by decide +kernel
theorem ziz:LN .globalImplicit aE "dict":=by decide +kernel
theorem zi0:LN .local aE "kind":=by decide +kernel
theorem zi1:LN .local aE "name":=by decide +kernel
theorem zi2:LN .local aE "places":=by decide +kernel
theorem zi3:LN .local aE "row":=by decide +kernel
theorem zi4:LN .globalImplicit aE "rows_of":=by decide +kernel
theorem zi5:LN .local aE "self":=by decide +kernel
theorem zi6:LN .local aE "signs":=by decide +kernel
theorem zi7:LN .local aE "size":=by decide +kernel
theorem zi8:LN .globalImplicit aE "zip":=by decide +kernel
def oZ (P:Program) (w:World) (C CB N:Addr):Sp:=fun vs H Q E=>∃ (x dx g:Addr) (v:V) (ks:List Str) (ts:List br) (fs:List bt),vs=[.ref x,.ref g,v]∧H x=some (.ins CB dx [])∧bC C H g ks ts fs∧dE ks ts fs∧Sh H v∧(∀ xs,rowOf H v=some xs→∀ y∈xs,Sh H y)∧
 (∀ ns:List Nat,rowOf H v=some (ns.map iV)→ci ks ns→∀ H',pL P w CB H' x ks ts fs ns→ay x H H'→Q .non H')∧(¬ oK H ks v→∀ H',av H H'→E (.ref N) none H')
theorem ss {f C CB N f1 f2 f3:Addr} {fd fd1 fd2 fd3:FuncData} (F:Fun K "__init__" "Board.__init__" aE f fd) (Z:Bl mg) (T:ClS K C) (TB:ClB K CB) (n_dict:mg "dict"=none) (n_zip:mg "zip"=none) (GV:∃ u,mg "VALUES_OF_TIES"=some u∧aM (.int 2) u)
  (m_kinds:oJ K C "kinds" f1) (G_kinds:dk P w K mg base CX0 1 f1 fd1 ["self"] (iI C)) (b_kinds:cH K fd1 ["self"] [])
  (m_ties:oJ K C "ties" f2) (G_ties:dk P w K mg base CX0 1 f2 fd2 ["self"] (oQ C)) (b_ties:cH K fd2 ["self"] [])
  (m_functions:oJ K C "functions" f3) (G_functions:dk P w K mg base CX0 1 f3 fd3 ["self"] (oR C)) (b_functions:cH K fd3 ["self"] [])
  (D_checked_size:fY P w K mg base "checked_size" 2 ["signs","size"] (oS C N)) (D_rows_of:Def P w K mg base "rows_of" 1 ["many_things","places"] lF) :
  dk P w K mg base (CX1 P w) 3 f fd ["self","signs","size"] (oZ P w C CB N):=by
 have SC:=ziw
 obtain⟨_,g_VALUES_OF_TIES,r_VALUES_OF_TIES⟩:=GV
 refine F.okE ziw (fun vs H Q E h=>?_) (fun cdv A outer s H vs Q E hr h=>?_)
 ·obtain⟨x,dx,g,v,ks,ts,fs,rfl,_⟩:=h
  rfl
 ·obtain⟨x,dx,g,v,ks,ts,fs,rfl,hx,hS,ok,hv,hin,q,no⟩:=h
  refine'⟨_,?derivation,?_⟩
  case derivation=>refine' ak ?Aa ?Ba;(case Aa=>refine' i7 (pq 0 (ap zi5) zgn zgo) ?Ca rfl;case Ca=>refine' nL rfl ziz zi8 n_dict n_zip ?Da rfl rfl rfl;case Da=>refine' aa ?Ea ?Fa ?Ga;(case Ea=>refine' fm (pq 1 (ap zi6) zhu zhv) T.cl m_kinds G_kinds (hr.mono (by decide)) b_kinds .nil ix rfl);(case Fa=>refine' aa ?Ha ae ?Ia;(case Ha=>refine' fO (hdb:=ziu) bT D_checked_size (hr.mono (by decide)) ziy ?Ja rfl rfl;case Ja=>refine' aa (pq 1 (ap zi6) zhu zhv) ?Ka ?La;(case Ka=>refine' aa (pq 2 (ap zi7) zhw zhx) ae ?Ma;case Ma=>rfl);case La=>rfl);case Ia=>rfl);case Ga=>rfl);case Ba=>refine' ak ?Na ?Oa;(case Na=>refine' i7 (pq 0 (ap zi5) zgn zgo) ?Pa rfl;case Pa=>exact uO);case Oa=>refine' ak ?Qa ?Ra;(case Qa=>refine' cg dZ rfl ?Sa ?Ta ?Ua ?Va;(case Sa=>refine' bn ?Wa;case Wa=>refine' fm (pq 1 (ap zi6) zhu zhv) T.cl m_ties G_ties (hr.mono (by decide)) b_ties .nil ix rfl);(case Ta=>refine' ja rfl ?Xa rfl rfl;case Xa=>refine' bE ?Ya ?Za ?Ab;(case Ya=>refine' au (i:=3) (x:=Str.ofString "name") SC.nd rfl (Or.inl zi1) (.inl rfl));(case Za=>refine' bE ?Bb eK ?Cb;(case Bb=>refine' au (i:=4) (x:=Str.ofString "places") SC.nd rfl (Or.inl zi2) (.inl rfl));case Cb=>rfl);case Ab=>rfl);(case Ua=>refine' am ?Db;case Db=>refine' cg dZ rfl ?Eb ?Fb ?Gb ?Hb;(case Eb=>refine' bn ?Ib;case Ib=>refine' kF (hdb:=ziv) D_rows_of (hr.mono (by decide)) zi4 ?Jb;case Jb=>refine' aa ?Kb ?Lb ?Mb;(case Kb=>refine' dA (pq 0 (ap zi5) zgn zgo) rfl);(case Lb=>refine' aa (pq 4 (ap zi2) zd9 zea) ae ?Nb;case Nb=>rfl);case Mb=>rfl);(case Fb=>refine' au (i:=5) (x:=Str.ofString "row") SC.nd rfl (Or.inl zi3) (.inl rfl));(case Gb=>refine' am ?Ob;case Ob=>refine' pc (tf hr) ?Pb ?Qb ?Rb rfl;(case Pb=>refine' dA (pq 0 (ap zi5) zgn zgo) rfl);(case Qb=>refine' cj ?Sb;case Sb=>refine' aa (pq 3 (ap zi1) zd5 zd6) ?Tb ?Ub;(case Tb=>refine' aa (pq 5 (ap zi3) zie zif) ae ?Vb;case Vb=>rfl);case Ub=>rfl);case Rb=>refine' bJ (hd:=zit) zix g_VALUES_OF_TIES r_VALUES_OF_TIES);case Hb=>intro _; rfl);case Va=>intro _; rfl);case Ra=>refine' am ?Wb;case Wb=>refine' cg dZ rfl ?Xb ?Yb ?Zb ?Ac;(case Xb=>refine' bn ?Bc;case Bc=>refine' fm (pq 1 (ap zi6) zhu zhv) T.cl m_functions G_functions (hr.mono (by decide)) b_functions .nil ix rfl);(case Yb=>refine' ja rfl ?Cc rfl rfl;case Cc=>refine' bE ?Dc ?Ec ?Fc;(case Dc=>refine' au (i:=3) (x:=Str.ofString "name") SC.nd rfl (Or.inl zi1) (.inl rfl));(case Ec=>refine' bE ?Gc ?Hc ?Ic;(case Gc=>refine' au (i:=4) (x:=Str.ofString "places") SC.nd rfl (Or.inl zi2) (.inl rfl));(case Hc=>refine' bE ?Jc eK ?Kc;(case Jc=>refine' au (i:=6) (x:=Str.ofString "kind") SC.nd rfl (Or.inl zi0) (.inl rfl));case Kc=>rfl);case Ic=>rfl);case Fc=>rfl);(case Zb=>refine' am ?Lc;case Lc=>refine' cg dZ rfl ?Mc ?Nc ?Oc ?Pc;(case Mc=>refine' bn ?Qc;case Qc=>refine' kF (hdb:=ziv) D_rows_of (hr.mono (by decide)) zi4 ?Rc;case Rc=>refine' aa ?Sc ?Tc ?Uc;(case Sc=>refine' dA (pq 0 (ap zi5) zgn zgo) rfl);(case Tc=>refine' aa (pq 4 (ap zi2) zd9 zea) ae ?Vc;case Vc=>rfl);case Uc=>rfl);(case Nc=>refine' au (i:=5) (x:=Str.ofString "row") SC.nd rfl (Or.inl zi3) (.inl rfl));(case Oc=>refine' am ?Wc;case Wc=>refine' pc (tf hr) ?Xc ?Yc ?Zc rfl;(case Xc=>refine' dA (pq 0 (ap zi5) zgn zgo) rfl);(case Yc=>refine' cj ?Ad;case Ad=>refine' aa (pq 3 (ap zi1) zd5 zd6) ?Bd ?Cd;(case Bd=>refine' aa (pq 5 (ap zi3) zie zif) ae ?Dd;case Dd=>rfl);case Cd=>rfl);case Zc=>refine' ph (vY hr) ?Ed (pq 6 (ap zi0) zd1 zd2) ?Fd;(case Ed=>refine' dA (pq 0 (ap zi5) zgn zgo) rfl);case Fd=>intro _ _;exact rfl);case Pc=>intro _; rfl);case Ac=>intro _; rfl
  obtain⟨dg,_,_,_,_,_,g2,_⟩:=id hS
  refine⟨_,rfl,g,dg,_,rfl,g2,jh,g,ks,ts,fs,rfl,hS,fun l hl=>?_⟩
  have s1:=af hl (.lst (ks.map V.str))
  by_cases hg:oK H ks v
  rotate_left
  ·refine⟨_,rfl,_,rfl,g,v,ks,ts,fs,rfl,hS.same s1,hv.same s1,fun xs e y hy=>(hin xs (by rw [← hv.rows s1]; exact e) y hy).same s1,fun ⟨ns,e,o⟩=>absurd ⟨ns,by rw [← hv.rows s1]; exact e,o⟩ hg,fun _ H' s'=>no hg _ (s1.trans s')⟩
  obtain⟨ns,hrow,sz⟩:=hg
  obtain⟨z,rfl,hz⟩:=rowOf.lt hrow
  replace q:=q ns hrow sz
  have gx:g≠x:=by rintro rfl; rw [hx] at g2; cases g2
  have hz':z≠x:=hz.neIns hx
  have cn:((cu ks ns ts fs).map (·.1)).Nodup:=by rw [fH]; exact mQ ok
  have okT:∀ t∈ts,(vT ks ns t).length≤16:=fun t ht=>xq sz (ok.tn t ht).2
  have okF:∀ t∈fs,(vF ks ns t).length≤16:=fun t ht=>xr sz ⟨(ok.fn t ht).2.1,(ok.fn t ht).2.2.1⟩
  have sl:=ok.sl
  refine⟨_,rfl,_,rfl,g,.ref z,ks,ts,fs,rfl,hS.same s1,hv.same s1,fun xs e y hy=>(hin xs (by rw [← hv.rows s1]; exact e) y hy).same s1,fun _ H1 s2=>?_,fun z=>absurd ⟨ns,by rw [hv.rows s1]; exact hrow,sz⟩ z⟩
  have s12:=s1.trans s2
  refine⟨l,z,ks,_,rfl,SqL.of (s2 _ _ ac),(hz.same s12).elim (fun e=>.inl (SqL.of e)) (fun e=>.inr (SqT.of e)),by rw [List.length_map]; exact sz.len,ok.kn,fun mt hmt=>?_⟩
  have s3:=s12.trans (af hmt (.dK (dt ks (ns.map iV))))
  have m3:(upd H1 mt (.dK (dt ks (ns.map iV)))) mt=some (.dK (dt ks (ns.map iV))):=ac
  generalize (upd H1 mt (.dK (dt ks (ns.map iV))))=H3 at s3 m3
  refine⟨_,rfl,x,CB,dx,_,rfl,s3 _ _ hx,TB.cl,TB.nM,by decide,?_⟩
  have nmx:mt≠x:=by rintro rfl; rw [s3 _ _ hx] at m3; cases m3
  generalize hG4:upd H3 x (.ins CB dx (dw "many_things" (.ref mt) []))=H4
  have x4:H4 x=some (.ins CB dx (flM mt)):=by rw [← hG4]; exact ac
  have S4:ay x H H4:=by rw [← hG4]; exact s3.x.trans (ay.upd x H3 _)
  have m4:H4 mt=some (.dK (dt ks (ns.map iV))):=by rw [← hG4,ag nmx]; exact m3
  intro mv hmv
  have s5:=af hmv (bu P w mv [])
  refine⟨_,rfl,x,CB,dx,_,rfl,s5 _ _ x4,TB.cl,TB.nV,vf _,?_⟩
  change wk _ _ _ _ (upd (upd H4 mv (bu P w mv [])) x (.ins CB dx (dw "many_values" (.ref mv) (flM mt))))
  have nvx:mv≠x:=by rintro rfl; rw [x4] at hmv; cases hmv
  have nvm:mv≠mt:=by rintro rfl; rw [m4] at hmv; cases hmv
  have fv:H mv=none:=S4.free nvx hmv
  have v5:(upd H4 mv (bu P w mv [])) mv=some (bu P w mv []):=ac
  generalize (upd H4 mv (bu P w mv []))=H5 at s5 v5
  generalize hG6:upd H5 x (.ins CB dx (dw "many_values" (.ref mv) (flM mt)))=G
  have xG:G x=some (.ins CB dx (flB mt mv)):=by rw [← hG6]; exact ac
  have S6:ay x H5 G:=by rw [← hG6]; exact ay.upd x H5 _
  have vG:G mv=some (bu P w mv []):=S6 _ _ nvx v5
  have mG:G mt=some (.dK (dt ks (ns.map iV))):=S6 _ _ nmx (s5 _ _ m4)
  have SG:ay x H G:=(S4.same s5).trans S6
  have TG:kZ H G:=fun a xs e=>SG a _ (fun z=>by rw [z,hx] at e; cases e) e
  have gG:bC C G g ks ts fs:=hS.keep (fun o e=>SG g o gx e) TG
  have ngv:g≠mv:=by rintro rfl; rw [fv] at g2; cases g2
  have nxv:x≠mv:=fun e=>nvx e.symm
  have nmv:mt≠mv:=fun e=>nvm e.symm
  have c0:b8 P w mv G []:=⟨[],vG,(fun _ h=>nomatch h),rfl⟩
  clear hG4 hG6 S6 s5 v5 m3 s3 s12 s1 s2 hmt hmv m4 x4 S4 hl
  have dG:∀ {H':Hp} {k:Str},ay mv G H'→k∈ks→lm H' mt (.str k) (some (.int (many ks ns k))):=fun {H'} {k} s hk=>by
   have:=lm.k (k:=.inr k) (s _ _ nmv mG)
   rw [kg sz.len hk] at this
   exact this
  obtain⟨dg',_,_,_,_,_,gG2,_⟩:=id gG
  refine⟨_,rfl,g,dg',_,rfl,gG2,uZ,g,ks,ts,fs,rfl,gG,fun l tv hl rt=>?_⟩
  have s7:=af hl (.lst tv)
  refine⟨l,rfl,⟨_,SqL.of ac⟩,?_⟩
  have l7:(upd G l (.lst tv)) l=some (.lst tv):=ac
  have c7:=c0.same s7
  generalize (upd G l (.lst tv))=G1 at s7 l7 c7
  have rt1:=rt.same s7
  have tvl:tv.length=ts.length:=by rw [rt.length,List.length_map]
  have nlv:l≠mv:=c7.neL l7
  refine bM (K:=K) (a:=l) (xs:=tv) (fun i σ H2=>∃ v3 v4 v5 v6,σ=[some (.ref x),some (.ref g),some (.ref z),v3,v4,v5,v6]∧ay mv G1 H2∧b8 P w mv H2 ((ts.take i).flatMap (vT ks ns)))
   ⟨_,_,_,_,rfl,ay.refl _ _,c7⟩ (fun i σ H2 _ ⟨_,_,_,_,_,s,_⟩=>SqL.of (s _ _ nlv l7)) ?_ ?_
  ·rintro i y σ H2 hi ⟨v3,v4,v5,v6,rfl,s2,c2⟩
   obtain⟨d,hd,rd⟩:=rt1.getV hi
   rw [List.getElem?_map] at hd
   obtain⟨t,ht,rfl⟩:=Option.map_eq_some_iff.mp hd
   obtain⟨py,px,rfl,_,hpy,hpx⟩:=rd.tuple_inv
   obtain⟨a1,a2,rfl,r1,r2⟩:=hpx.two
   obtain rfl:=r1.str_inv
   obtain⟨pp,ppx,rfl,_,hpp,hps⟩:=r2.tuple_inv
   obtain rfl:=hps.strs_inv
   obtain⟨o1,o2,o3⟩:=ok.tn t (List.mem_of_getElem? ht)
   refine⟨py,_,rfl,SqT.of (c7.tups s2 _ _ hpy),rfl,_,_,rfl,_,_,rfl,rfl,?_⟩
   refine⟨_,rfl,x,CB,dx,_,_,rfl,s2 _ _ nxv (s7 _ _ xG),TB.cl,TB.nM,gl _ _,_,rfl,mt,pp,ks,t.ps,ns,rfl,s2 _ _ nmv (s7 _ _ mG),c7.tups s2 _ _ hpp,o3,sz,o2,fun l2 as G2 hl2 l2e hrs s3=>⟨l2,rfl,⟨_,SqL.of l2e⟩,?_⟩⟩
   have c3:=c2.same s3
   have nl2:l2≠mv:=c3.neL l2e
   have s13:ay mv G1 G2:=s2.same s3
   refine bM (K:=K) (a:=l2) (xs:=as.map V.ref) (fun j σ H3=>(∃ v5,σ=[some (.ref x),some (.ref g),some (.ref z),some (.str t.nm),some (.ref pp),v5,v6])∧ay mv G2 H3∧b8 P w mv H3 ((ts.take i).flatMap (vT ks ns)++(vT ks ns t).take j))
    ⟨⟨_,rfl⟩,ay.refl _ _,by simpa using c3⟩ (fun j σ H3 _ ⟨_,s,_⟩=>SqL.of (s _ _ nl2 l2e)) ?_ ?_
   ·rintro j y σ H3 hj ⟨⟨v5,rfl⟩,s4,c4⟩
    rw [List.getElem?_map] at hj
    obtain⟨ra,hra,rfl⟩:=Option.map_eq_some_iff.mp hj
    obtain⟨r,hr',er⟩:=Paired.at hrs hra
    have hy:(vT ks ns t)[j]? = some ((t.nm,r),2):=by unfold vT; rw [List.getElem?_map,hr']; rfl
    have nf:=mD (vT ks ns) (·.1) ht hy [] (fs.flatMap (vF ks ns)) cn
    refine⟨_,rfl,x,CB,dx,_,_,rfl,s4 _ _ nxv (s13 _ _ nxv (s7 _ _ xG)),TB.cl,TB.nV,gj _ _,_,rfl,_,rfl,by show 2≤sizeLine; decide,fun p hp=>?_⟩
    obtain⟨cd,k1,k2,k3,k4,k5,k6⟩:=c4.put (nm:=t.nm) (r:=r) (ra:=ra) 2 (c3.tups s4 _ _ er) nf (by
     have h1:=kH okT (show ts.length≤8 by omega) i
     have h2:=okT t (List.mem_of_getElem? ht)
     rw [List.length_append,List.length_take]; omega) hp
    refine⟨mv,p,cd,(t.nm,r),rfl,rfl,k1,k2,k3,k4,⟨_,rfl⟩,s4.trans k5,?_⟩
    rw [List.take_succ,hy]
    rw [List.append_assoc] at k6
    exact k6
   ·rintro σ H3 ⟨⟨v5,rfl⟩,s4,c4⟩
    refine⟨_,_,_,_,rfl,s13.trans s4,?_⟩
    rw [ic ht]
    have e:(as.map V.ref).length=(vT ks ns t).length:=by unfold vT; rw [List.length_map,List.length_map,Paired.length hrs]
    rw [e,List.take_length] at c4
    exact c4
  rintro σ H2 ⟨v3,v4,v5,v6,rfl,s2,c2⟩
  rw [tvl,List.take_length] at c2
  have SG2:ay mv G H2:=s7.x.trans s2
  have gH2:bC C H2 g ks ts fs:=gG.keep (fun o e=>SG2 g o ngv e) (c0.tups SG2)
  clear rt1 rt l7 nlv hl s7 c7 tvl s2 tv l G1
  obtain⟨dh,_,_,_,_,_,gH,_⟩:=id gH2
  refine⟨_,rfl,g,dh,_,rfl,gH,kL,g,ks,ts,fs,rfl,gH2,fun l tv hl rt=>?_⟩
  have s7:=af hl (.lst tv)
  refine⟨l,rfl,⟨_,SqL.of ac⟩,?_⟩
  have l7:(upd H2 l (.lst tv)) l=some (.lst tv):=ac
  have c7:=c2.same s7
  have S7:ay mv G (upd H2 l (.lst tv)):=SG2.same s7
  have rt1:=rt.same s7
  generalize (upd H2 l (.lst tv))=G1 at s7 l7 c7 S7 rt1
  have tvl:tv.length=fs.length:=by rw [rt.length,List.length_map]
  have nlv:l≠mv:=c7.neL l7
  refine bM (K:=K) (a:=l) (xs:=tv) (fun i σ H2=>∃ v3 v4 v5 v6,σ=[some (.ref x),some (.ref g),some (.ref z),v3,v4,v5,v6]∧ay mv G1 H2∧b8 P w mv H2 (ts.flatMap (vT ks ns)++(fs.take i).flatMap (vF ks ns)))
   ⟨_,_,_,_,rfl,ay.refl _ _,by simpa using c7⟩ (fun i σ H2 _ ⟨_,_,_,_,_,s,_⟩=>SqL.of (s _ _ nlv l7)) ?_ ?_
  ·rintro i y σ H2 hi ⟨v3,v4,v5,v6,rfl,s2,c2⟩
   obtain⟨d,hd,rd⟩:=rt1.getV hi
   rw [List.getElem?_map] at hd
   obtain⟨t,ht,rfl⟩:=Option.map_eq_some_iff.mp hd
   obtain⟨py,px,rfl,_,hpy,hpx⟩:=rd.tuple_inv
   obtain⟨a1,a2,a3,rfl,r1,r2,r3⟩:=hpx.three
   obtain rfl:=r1.str_inv
   obtain rfl:=r3.str_inv
   obtain⟨pp,ppx,rfl,_,hpp,hps⟩:=r2.tuple_inv
   obtain rfl:=hps.strs_inv
   obtain⟨o1,o2,o3,o4⟩:=ok.fn t (List.mem_of_getElem? ht)
   refine⟨py,_,rfl,SqT.of (c7.tups s2 _ _ hpy),rfl,_,_,rfl,_,_,rfl,_,_,rfl,rfl,?_⟩
   refine⟨_,rfl,x,CB,dx,_,_,rfl,s2 _ _ nxv (S7 _ _ nxv xG),TB.cl,TB.nM,gl _ _,_,rfl,mt,pp,ks,t.ps,ns,rfl,s2 _ _ nmv (S7 _ _ nmv mG),c7.tups s2 _ _ hpp,o3,sz,o2,fun l2 as G2 hl2 l2e hrs s3=>⟨l2,rfl,⟨_,SqL.of l2e⟩,?_⟩⟩
   have c3:=c2.same s3
   have nl2:l2≠mv:=c3.neL l2e
   have s13:ay mv G1 G2:=s2.same s3
   refine bM (K:=K) (a:=l2) (xs:=as.map V.ref) (fun j σ H3=>(∃ v5,σ=[some (.ref x),some (.ref g),some (.ref z),some (.str t.nm),some (.ref pp),v5,some (.str t.kd)])∧ay mv G2 H3∧b8 P w mv H3 (ts.flatMap (vT ks ns)++(fs.take i).flatMap (vF ks ns)++(vF ks ns t).take j))
    ⟨⟨_,rfl⟩,ay.refl _ _,by simpa using c3⟩ (fun j σ H3 _ ⟨_,s,_⟩=>SqL.of (s _ _ nl2 l2e)) ?_ ?_
   ·rintro j y σ H3 hj ⟨⟨v5,rfl⟩,s4,c4⟩
    rw [List.getElem?_map] at hj
    obtain⟨ra,hra,rfl⟩:=Option.map_eq_some_iff.mp hj
    obtain⟨r,hr',er⟩:=Paired.at hrs hra
    have hy:(vF ks ns t)[j]? = some ((t.nm,r),many ks ns t.kd):=by unfold vF; rw [List.getElem?_map,hr']; rfl
    have nf:=mD (vF ks ns) (·.1) ht hy (ts.flatMap (vT ks ns)) [] (by rw [List.append_nil]; exact cn)
    have S3:ay mv G H3:=S7.trans (s13.trans s4)
    refine⟨_,rfl,x,CB,dx,_,_,rfl,S3 _ _ nxv xG,TB.cl,TB.nM,gl _ _,_,rfl,mt,_,rfl,dG S3 o4,?_⟩
    refine⟨_,rfl,x,CB,dx,_,_,rfl,S3 _ _ nxv xG,TB.cl,TB.nV,gj _ _,_,rfl,_,rfl,by show 2≤sizeLine; decide,fun p hp=>?_⟩
    obtain⟨cd,k1,k2,k3,k4,k5,k6⟩:=c4.put (nm:=t.nm) (r:=r) (ra:=ra) (many ks ns t.kd) (c3.tups s4 _ _ er) nf (by
     have h0:=kH okT (show ts.length≤8 by omega) ts.length
     rw [List.take_length] at h0
     have h1:=kH okF (show fs.length≤8 by omega) i
     have h2:=okF t (List.mem_of_getElem? ht)
     rw [List.length_append,List.length_append,List.length_take]; omega) hp
    refine⟨mv,p,cd,(t.nm,r),rfl,rfl,k1,k2,k3,k4,⟨_,rfl⟩,s4.trans k5,?_⟩
    rw [List.take_succ,hy]
    rw [List.append_assoc] at k6
    exact k6
   ·rintro σ H3 ⟨⟨v5,rfl⟩,s4,c4⟩
    refine⟨_,_,_,_,rfl,s13.trans s4,?_⟩
    rw [ic ht,← List.append_assoc]
    have e:(as.map V.ref).length=(vF ks ns t).length:=by unfold vF; rw [List.length_map,List.length_map,Paired.length hrs]
    rw [e,List.take_length] at c4
    exact c4
  rintro σ H3 ⟨v3,v4,v5,v6,rfl,s3,cd,k1,k2,k3⟩
  rw [tvl,List.take_length] at k3
  have S3:ay mv G H3:=S7.trans s3
  refine q H3 ⟨dx,mt,mv,cd,S3 _ _ nxv xG,S3 _ _ nmv mG,k1,k2,k3⟩ fun b o n e=>S3 b o (fun z=>by rw [z,fv] at e; cases e) (SG b o n e)
end
end Few
namespace L2
open PySem
theorem tJ {P:Program} {w:World} {a:Addr} {ob:Obj} {cd:CD} {g:TG} {tb:TS} {D:jD} {σ:St} {H:Hp} (Pv:Nat→St→Hp→Prop) (h0:Pv 0 σ H) (hl:∀ i σ H,i≤cd.length→Pv i σ H→H a=some (.frz ob (bu P w a cd)))
  (hs:∀ i c σ H,cd[i]? = some c→Pv i σ H→g c.2.2 σ H fun σ2 H2=>tb {D with nx:=Pv (i+1),ct:=Pv (i+1),bk:=D.nx} σ2 H2) (hd:∀ σ H,Pv cd.length σ H→D.nx σ H) :
  ∃ W:Nat→Nat→St→Hp→Prop,(∃ m,W 0 m σ H)∧∀ i m σ H,W i m σ H→
   ((Itv P w a ob cd).stop i H∧D.nx σ H)∨((Itv P w a ob cd).go i H∧∃ N:St→Hp→Prop,(∀ σ' H',N σ' H'→∃ m',m'<m∧W (i+1) m' σ' H')∧∀ x H',(Itv P w a ob cd).yld i H x H'→g x σ H' fun σ2 H2=>tb {D with nx:=N,ct:=N,bk:=D.nx} σ2 H2):=by
 refine⟨fun i m σ H=>m=cd.length-i∧i≤cd.length∧Pv i σ H,⟨cd.length,by simp,Nat.zero_le _,h0⟩,?_⟩
 rintro i m σ H ⟨rfl,hi,p⟩
 by_cases hlt:i<cd.length
 ·refine .inr ⟨⟨hl i σ H hi p,hlt⟩,Pv (i+1),fun σ' H' q=>⟨cd.length - (i+1),by omega,rfl,by omega,q⟩,?_⟩
  rintro x H' ⟨rfl,c,e,rfl⟩
  exact hs i c σ H' e p
 ·obtain rfl:i=cd.length:=by omega
  exact .inl ⟨⟨hl _ σ H hi p,rfl⟩,hd σ H p⟩
theorem uj {H:Hp} {a:Addr} {o:HO} (h:H a=some o):upd H a o=H:=by
 funext b; unfold upd; split
 ·rename_i e; rw [e,h]
 ·rfl
end L2
namespace Few
open PySem L2
def eE (L:List (CK×Nat)):Nat:=L.foldl (fun a p=>a*p.2) 1
theorem i8 (L:List (CK×Nat)) (p:CK×Nat):eE (L++[p])=eE L*p.2:=by unfold eE; rw [List.foldl_append]; rfl
theorem zi9:LD "board":=by decide +kernel
theorem zja:LS "board":=by decide +kernel
theorem zjb:LD "many":=by decide +kernel
theorem zjc:LS "many":=by decide +kernel
theorem zjd:LD "product":=by decide +kernel
theorem zje:LS "product":=by decide +kernel
section
variable {P:Program} {w:World} {K:PySem.W.Frag} {mg:Str→Option Value} {base:Heap}
abbrev cq:Stmt:=top 26
theorem zjf:aB ["board","product","many"] ["board"] (ah cq):=⟨rfl,rfl,rfl,by decide +kernel,rfl,by decide +kernel,by decide +kernel⟩
theorem zjg:LN .local cq "board":=by decide +kernel
theorem zjh:LN .local cq "many":=by decide +kernel
theorem zji:LN .local cq "product":=by decide +kernel
def lI (P:Program) (w:World) (CB:Addr):Sp:=fun vs H Q _=>∃ (b:Addr) (ks:List Str) (ts:List br) (fs:List bt) (ns:List Nat),vs=[.ref b]∧pL P w CB H b ks ts fs ns∧ci ks ns∧dE ks ts fs∧Q (.int (eE (cu ks ns ts fs):Nat)) H
theorem qk {CB:Addr} (F:aL K mg "fillings_of" cq ["board"]) (Z:Bl mg) (TB:ClB K CB):Def P w K mg base "fillings_of" 1 ["board"] (lI P w CB):=by
 have SC:=zjf
 refine F.mk' (k:=0) zjf (fun vs H Q E h=>?_) (fun f cdv A outer s H vs Q E hr h=>?_)
 ·obtain⟨b,ks,ts,fs,ns,rfl,_⟩:=h
  rfl
 ·obtain⟨b,ks,ts,fs,ns,rfl,⟨dx,mt,mv,cd,e1,e2,e3,e4,e5⟩,sz,ok,q⟩:=h
  refine'⟨_,?derivation,?_⟩
  case derivation=>refine' ak ?Aa ?Ba;(case Aa=>refine' bc (i:=1) (x:=Str.ofString "product") ?Ca ?Da ?Ea ?Fa ?Ga ?Ha;(case Ca=>exact SC.nd);(case Da=>exact rfl);(case Ea=>exact(Or.inl zji));(case Fa=>exact aq);(case Ga=>rfl);case Ha=>exact .inl rfl);case Ba=>refine' ak ?Ia ?Ja;(case Ia=>refine' uK ?Ka;case Ka=>refine' cg PassesOwn.never rfl ?La ?Ma ?Na ?Oa;(case La=>refine' uM ?Pa;case Pa=>refine' dA (pq 0 (ap zjg) zi9 zja) rfl);(case Ma=>refine' au (i:=2) (x:=Str.ofString "many") SC.nd rfl (Or.inl zjh) (.inl rfl));(case Na=>refine' am ?Qa;case Qa=>refine' wF (i:=1) (x:=Str.ofString "product") SC.nd rfl (Or.inl zji) (pq 2 (ap zjh) zjb zjc) u9 (.inl rfl));case Oa=>intro _; rfl);case Ja=>refine' am ?Ra;case Ra=>refine' aO (pq 1 (ap zji) zjd zje)
  have nbm:b≠mv:=by rintro rfl; rw [e1] at e3; cases e3
  have le4:∀ p∈cu ks ns ts fs,p.2≤4:=fun p hp=>by
   rcases List.mem_append.mp hp with h | h
   ·obtain⟨t,ht,h⟩:=List.mem_flatMap.mp h
    obtain⟨r,_,rfl⟩:=List.mem_map.mp h
    show 2≤4; decide
   ·obtain⟨t,ht,h⟩:=List.mem_flatMap.mp h
    obtain⟨r,_,rfl⟩:=List.mem_map.mp h
    exact(sz.many (ok.fn t ht).2.2.2).2
  refine⟨mv,cd,e3,fun ob=>⟨_,rfl,b,CB,dx,_,_,rfl,by rw [ag nbm]; exact e1,TB.cl,TB.nV,gj _ _,mv,ob,cd,rfl,ac,tJ (fun i σ H2=>∃ v,σ=[some (.ref b),some (.int (eE ((cu ks ns ts fs).take i):Nat)),v]∧H2=upd H mv (.frz ob (bu P w mv cd))) ⟨_,rfl,rfl⟩ (fun i σ H2 _ ⟨_,_,z⟩=>by rw [z]; exact ac) ?_ ?_⟩⟩
  ·rintro i c σ H2 hi ⟨v,rfl,rfl⟩
   have e6:=congrArg (fun l=>l[i]?) e5
   simp only [List.getElem?_map,hi,Option.map_some] at e6
   obtain⟨p,hp,e7⟩:=Option.map_eq_some_iff.mp e6.symm
   obtain⟨_,e8⟩:=Prod.mk.inj e7
   have p4:=le4 p (List.mem_of_getElem? hp)
   rw [← e8]
   have e9:((eE ((cu ks ns ts fs).take (i+1)):Nat):Int)=(eE ((cu ks ns ts fs).take i):Nat)*(p.2:Nat):=by
    rw [List.take_succ,hp,Option.toList_some,i8]; exact Int.natCast_mul _ _
   refine⟨_,rfl,_,rfl,_,_,rfl,rfl,.inr ⟨by omega,by omega⟩,some (iV p.2),?_,rfl⟩
   rw [e9]; rfl
  ·rintro σ H2 ⟨v,rfl,rfl⟩
   refine⟨ac,_,rfl,?_⟩
   show Q (V.int (eE ((cu ks ns ts fs).take cd.length):Nat)) (upd (upd H mv (.frz ob (bu P w mv cd))) mv (bu P w mv cd))
   rw [ui,uj e3,show cd.length=(cu ks ns ts fs).length from e5.length,List.take_length]
   exact q
end
theorem zjj:LD "Board":=by decide +kernel
theorem zjk:LD "fillings_of":=by decide +kernel
theorem gX {H:Hp} {x dx CB:Addr} (hx:H x=none) (hd:H dx=none) (n:dx≠x):av H (upd (upd H dx (.own x)) x (.ins CB dx [])):=
 (af hd _).trans (af (by rw [ag (Ne.symm n)]; exact hx) _)
theorem gY {H H1 H2:Hp} {x:Addr} (hx:H x=none) (s:av H H1) (t:ay x H1 H2):av H H2:=fun b o e=>t b o (al e hx) (s b o e)
section
variable {P:Program} {w:World} {K:PySem.W.Frag} {mg:Str→Option Value} {base:Heap}
abbrev cO:Stmt:=top 25
theorem zjl:aB ["signs","size"] ["signs","size"] (ah cO):=⟨rfl,rfl,rfl,by decide +kernel,rfl,by decide +kernel,by decide +kernel⟩
theorem zjm:LN .globalImplicit cO "Board":=by decide +kernel
theorem zjn:LN .globalImplicit cO "fillings_of":=by decide +kernel
theorem zjo:LN .local cO "signs":=by decide +kernel
theorem zjp:LN .local cO "size":=by decide +kernel
def nj (C N:Addr):Sp:=fun vs H Q E=>∃ (g:Addr) (v:V) (ks:List Str) (ts:List br) (fs:List bt),vs=[.ref g,v]∧bC C H g ks ts fs∧dE ks ts fs∧Sh H v∧(∀ xs,rowOf H v=some xs→∀ y∈xs,Sh H y)∧
 (∀ ns:List Nat,rowOf H v=some (ns.map iV)→ci ks ns→∀ H',av H H'→Q (.int (eE (cu ks ns ts fs):Nat)) H')∧(¬ oK H ks v→∀ H',av H H'→E (.ref N) none H')
theorem uV {C CB N fB:Addr} {fdB:FuncData} (F:aL K mg "fillings" cO ["signs","size"]) (Z:Bl mg) (TB:ClB K CB) (D_fillings_of:Def P w K mg base "fillings_of" 1 ["board"] (lI P w CB))
  (M_Board:Mk K CB fB) (G_Board:dk P w K mg base (CX1 P w) 3 fB fdB ["self","signs","size"] (oZ P w C CB N)) (m_Board:mg "Board"=some (.ref CB)) (b_Board:cH K fdB ["self","signs","size"] []):fY P w K mg base "fillings" 5 ["signs","size"] (nj C N):=by
 have SC:=zjl
 refine F.mkE (k:=4) zjl (fun vs H Q E h=>?_) (fun f cdv A outer s H vs Q E hr h=>?_)
 ·obtain⟨g,v,ks,ts,fs,rfl,_⟩:=h
  rfl
 ·obtain⟨g,v,ks,ts,fs,rfl,hS,ok,hv,hin,q,no⟩:=h
  refine'⟨_,?derivation,?_⟩
  case derivation=>refine' am ?Aa;case Aa=>refine' aO ?Ba;case Ba=>refine' kF (hdb:=zjk) D_fillings_of (hr.mono (by decide)) zjn ?Ca;case Ca=>refine' aa ?Da ae ?Ea;(case Da=>refine' kE (hdb:=zjj) M_Board G_Board (hr.mono (by decide)) zjm m_Board b_Board .nil (pi bT) ?Fa rfl rfl;case Fa=>refine' aa (pq 0 (ap zjo) zhu zhv) ?Ga ?Ha;(case Ga=>refine' aa (pq 1 (ap zjp) zhw zhx) ae ?Ia;case Ia=>rfl);case Ha=>rfl);case Ea=>rfl
  refine⟨_,rfl,_,rfl,fun x dx hx hd nd=>?_⟩
  have s1:=gX (CB:=CB) hx hd nd
  refine⟨x,dx,g,v,ks,ts,fs,rfl,ac,hS.same s1,ok,hv.same s1,fun xs e y hy=>(hin xs (by rw [← hv.rows s1]; exact e) y hy).same s1,fun ns e sz H2 B t=>⟨rfl,?_⟩,fun hg H' s'=>no (fun ⟨ns,e,o⟩=>hg ⟨ns,by rw [hv.rows s1]; exact e,o⟩) _ (s1.trans s')⟩
  have s2:=gY hx s1 t
  exact⟨x,ks,ts,fs,ns,rfl,B,sz,ok,q ns (by rw [← hv.rows s1]; exact e) sz _ s2⟩
end
end Few
namespace Few
def dP (rs:List (List Nat)):List (List Nat):=rs.flatMap fun r=>[1,2,3,4].map fun x=>r++[x]
def rowsN:Nat→List (List Nat)
 | 0=>[[]]
 | n+1=>dP (rowsN n)
def szs (m t:Nat):List (List Nat):=(rowsN m).filter fun r=>decide (r.sum≤t)
noncomputable def plc (m t:Nat):List Nat:=(Srt.srt ((szs m t).map Srt.kn)).getD []
noncomputable def due (m t:Nat):List (List Nat):=(plc m t).map fun i=>(szs m t).getD i []
theorem uv:((List.range 4).all fun m=>(List.range 17).all fun t=>(Srt.srt ((szs m t).map Srt.kn)).isSome)=true:=by decide +kernel
noncomputable def q4 (t:Nat):Bool:=(Srt.srt ((szs 4 t).map Srt.kn)).isSome
theorem yU:q4 8=true:=by decide +kernel
theorem yT:q4 9=true:=by decide +kernel
theorem yb:q4 10=true:=by decide +kernel
theorem ya:q4 11=true:=by decide +kernel
theorem x9:q4 12=true:=by decide +kernel
theorem xZ:q4 13=true:=by decide +kernel
theorem xY:q4 14=true:=by decide +kernel
theorem xX:q4 15=true:=by decide +kernel
theorem xW:q4 16=true:=by decide +kernel
theorem yV:((List.range 8).all q4)=true:=by decide +kernel
theorem xJ {t:Nat} (h:t≤16):q4 t=true:=by
 by_cases h8:t<8
 ·exact List.all_eq_true.mp yV t (List.mem_range.mpr h8)
 ·obtain⟨k,rfl⟩:∃ k,t=k+8:=⟨t-8,by omega⟩
  match k,h with
  | 0,_=>exact yU
  | 1,_=>exact yT
  | 2,_=>exact yb
  | 3,_=>exact ya
  | 4,_=>exact x9
  | 5,_=>exact xZ
  | 6,_=>exact xY
  | 7,_=>exact xX
  | 8,_=>exact xW
  | n+9,h=>omega
theorem oP {m t:Nat} (hm:m≤4) (ht:t≤16):Srt.srt ((szs m t).map Srt.kn)=some (plc m t):=by
 have h:(Srt.srt ((szs m t).map Srt.kn)).isSome=true:=by
  by_cases h4:m=4
  ·subst h4
   exact xJ ht
  ·exact List.all_eq_true.mp (List.all_eq_true.mp uv m (List.mem_range.mpr (by omega))) t (List.mem_range.mpr (by omega))
 unfold plc
 obtain⟨p,e⟩:=Option.isSome_iff_exists.mp h
 rw [e]; rfl
theorem eO (rs:List (List Nat)):(dP rs).length=4*rs.length:=by
 unfold dP
 induction rs with
 | nil=>rfl
 | cons r rs ih=>rw [List.flatMap_cons,List.length_append,ih,List.length_cons,List.length_map]; show 4+_=_; omega
theorem cY:∀ n,(rowsN n).length=4 ^ n
 | 0=>rfl
 | n+1=>by show (dP (rowsN n)).length=_; rw [eO,cY n,Nat.pow_succ]; omega
theorem gy:∀ {n:Nat} {r:List Nat},r∈rowsN n→r.length=n∧Srt.Dg r
 | 0,r,h=>by
  have : r=[]:=by simpa [rowsN] using h
  subst this
  exact⟨rfl,fun _ z=>nomatch z⟩
 | n+1,r,h=>by
  obtain⟨q,hq,h⟩:=List.mem_flatMap.mp h
  obtain⟨x,hx,rfl⟩:=List.mem_map.mp h
  obtain⟨h1,h2⟩:=gy hq
  refine⟨by rw [List.length_append,h1]; rfl,fun y hy=>?_⟩
  rcases List.mem_append.mp hy with hy | hy
  ·exact h2 y hy
  ·rw [List.mem_singleton.mp hy]
   simp at hx
   omega
theorem rf {m t:Nat} {r:List Nat} (h:r∈szs m t):r.length=m∧Srt.Dg r:=gy (List.mem_filter.mp h).1
theorem rh {m:Nat} (h:m≤4) (t:Nat):(szs m t).length≤256:=by
 refine Nat.le_trans (List.length_filter_le _ _) ?_
 rw [cY]
 exact Nat.le_trans (Nat.pow_le_pow_right (by decide) h) (by decide)
theorem lM {m:Nat} (h:m≤4):(rowsN m).length≤256:=by
 rw [cY]
 exact Nat.le_trans (Nat.pow_le_pow_right (by decide) h) (by decide)
end Few
namespace L2
open PySem PySem.Spec PyProof.Rows
theorem Fun.okEC {P:Program} {w:World} {K:PySem.W.Frag} {mg:Str→Option Value} {base:Heap} {x qual:Str} {st:Stmt} {f c:Addr} {fd:FuncData} {N ps:List Str} {k:Nat} {sp:Sp} (F:Fun K x qual st f fd) (hc:fd.code=.ref c) (S:aB N ps (ah st)) (len:∀ vs H Q E,sp vs H Q E→vs.length=ps.length)
  (hbody:∀ (A:Around) (outer:List Env) (s:Shared) (H:Hp) (vs:List V) (Q:VK) (E:XK),bN k (A.deeper (envOfC qual (ah st) s.heap.objs.size f (.ref c)))→sp vs H Q E→
   ∃ t,PSs ((jr (CX1 P w) P w K mg base N qual (ah st) f (.ref c) A outer s H E).exc E) (b7 st) t∧t {nx:=fun _ H'=>Q .non H',rt:=Q} (cR N vs) H):dk P w K mg base (CX1 P w) (k+1) f fd ps sp:=by
 obtain⟨oc,od,kV,doc,pm,an,cdv,ct,osl,rfl,lk,hcd⟩:=F.ex
 obtain rfl:cdv=.ref c:=hc
 refine tK lk hcd S len fun A outer s H vs Q E hr hsp=>?_
 obtain⟨t,h,q⟩:=hbody A outer s H vs Q E hr hsp
 refine⟨t,fun pins s1 σ H1 D I hw=>?_,q⟩
 refine wpAny_mono (h pins s1 σ H1 D (I.wish _) hw) (fun fl s2 z=>z.unwish) fun e s2 z=>?_
 refine wpAny_mono z.leave (fun _ s3 z3=>?_) fun _ _ z=>z
 obtain⟨a,L,cls,dx,σ',H',fl,S',env0,rest,rfl,hs,hf0,hf,I',ex,hp',hS,hE⟩:=z3
 obtain rfl:fl=some .none:=hp'
 refine⟨a,cls,dx,H',S',rfl,I'.os,I'.bare,I'.base,I'.hok,ex,fun b hb=>⟨(hS b hb).un,?_⟩,hE⟩
 rcases(hS b hb).new with z | z
 ·exact absurd (show b∈([]:List Addr) from z) (by simp)
 ·exact z
theorem uJ {X:Cx} {E':Value→Shared→Prop} {st:Stmt} {t:TS} (h:PS X.nox st t):PS (X.wish E') st t:=fun pins s σ H D I hw=>
 wpAny_mono (h pins s σ H D (I.unwish.wish _) hw) (fun f s' z=>by
  cases f with
  | next=>obtain⟨σ',H',J,q⟩:=z; exact⟨σ',H',J.unwish.wish _,q⟩
  | brk=>obtain⟨σ',H',J,q⟩:=z; exact⟨σ',H',J.unwish.wish _,q⟩
  | cont=>obtain⟨σ',H',J,q⟩:=z; exact⟨σ',H',J.unwish.wish _,q⟩
  | ret u=>obtain⟨v,σ',H',J,r,q⟩:=z; exact⟨v,σ',H',J.unwish.wish _,r,q⟩) fun _ _ z=>False.elim z
theorem mO {J:It} {tc:TT} {te:TE} {σ:St} {H:Hp} {Q:VK} (n:Nat) (Pv:Nat→List V→Hp→Prop) (Vx:Nat→V→Prop) (h0:Pv 0 [] H) (hz:∀ i ys H,i<n→Pv i ys H→ys.length<sizeLine) (hgo:∀ i ys H,i<n→Pv i ys H→J.go i H∧∀ x H',J.yld i H x H'→H'=H∧Vx i x) (hstop:∀ ys H,Pv n ys H→J.stop n H)
  (hs:∀ i x ys H,i<n→Vx i x→Pv i ys H→tc (some x::σ) H fun b H3=>if b=true then te (some x::σ) H3 fun v H4=>Pv (i+1) (ys++[v]) H4 else Pv (i+1) ys H3)
  (hd:∀ ys H,Pv n ys H→∀ D,H D=none→Q (.ref D) (upd H D (.lst ys)))
  (htc:∀ σ H (Q Q':Bool→Hp→Prop),tc σ H Q→(∀ b H',Q b H'→Q' b H')→tc σ H Q'):ln 1 J (dQ 0) tc te σ H Q:=by
 refine⟨fun i m ys σ' H=>i≤n∧m=n-i∧Pv i ys H∧∃ v0,σ'=v0::σ,⟨n,Nat.zero_le _,rfl,h0,none,rfl⟩,?_⟩
 rintro i m ys σ' H1 ⟨hi,rfl,p,v0,rfl⟩
 by_cases hlt:i<n
 ·obtain⟨g1,g2⟩:=hgo i ys H1 hlt p
  refine .inr ⟨g1,hz i ys H1 hlt p,fun x H' y=>?_⟩
  obtain⟨rfl,vx⟩:=g2 x H' y
  refine htc _ _ _ _ (hs i x ys H' hlt vx p) ?_
  intro b H5 hb
  cases b with
  | true=>
   rw [if_pos rfl] at hb ⊢
   exact⟨_,hb,fun v H7 e=>⟨n - (i+1),by omega,hlt,rfl,e,_,rfl⟩⟩
  | false=>
   rw [if_neg Bool.false_ne_true] at hb ⊢
   exact⟨n - (i+1),by omega,hlt,rfl,hb,_,rfl⟩
 ·have e:i=n:=by omega
  subst e
  exact .inl ⟨hstop ys H1 p,hd ys H1 p⟩
end L2
namespace Few
open PySem L2
section
variable {P:Program} {w:World} {K:PySem.W.Frag} {mg:Str→Option Value} {base:Heap}
abbrev wo (K:PySem.W.Frag):TE:=xv (lz (tCB (rSum K) (lz (pV 0) rc)) (lz (pV 0) rc))
theorem sO {k:Nat} {y qual:Str} {scope:Scope} {p1 p2 p3 p4 p5:Pos} {n:Nat} (n_sum:mg "sum"=none) (hg:scope.names.lookup (Str.ofString "sum")=some .globalImplicit) (h1:scope.names.lookup y=some .local)
  (hd:(y==("__debug__":Str))=false) (hc:(y==("__classdict__":Str))=false):∀ f cd A outer s H E,bN k (A.deeper (envX qual scope s.heap.objs.size f cd []))→PE ((js P w K mg base [y] qual scope [] f cd A outer s H E).exc E) (.Tuple [.Call (.Name "sum" p1) [.Name y p2] [] p3,.Name y p4] n p5) (wo K):=by
 intro f cd A outer s H E hr
 refine' cj ?a
 refine' aa ?b1 ?b2 ?b3
 case b1=>
  refine' aD (id:="sum") ?c1 ?c2 ?c3 ?c4 ?c5 ?c6 ?c7
  case c1=>exact gP hr.hd
  case c2=>exact hg
  case c3=>exact n_sum
  case c4=>exact kX
  case c5=>
   refine' aa ?d1 ?d2 ?d3
   case d1=>exact(pq 0 (x:=y) (.inl h1) hd hc)
   case d2=>exact ae
   case d3=>rfl
  case c6=>decide +kernel
  case c7=>decide +kernel
 case b2=>
  refine' aa ?d1 ?d2 ?d3
  case d1=>exact(pq 0 (x:=y) (.inl h1) hd hc)
  case d2=>exact ae
  case d3=>rfl
 case b3=>rfl
theorem sS {K:PySem.W.Frag} (ra:Addr) (r:List Nat) (H:Hp) (Q:VK) (h:H ra=some (.lst (rV r))) (q:∀ t H',H t=none→H' t=some (.tup [.int (r.sum:Int),.ref ra])→av H H'→Q (.ref t) H'):wo K [some (.ref ra)] H Q:=
 ⟨_,rfl,ra,r,rfl,SqL.of h,_,rfl,by show 2≤sizeLine; decide,fun t ht=>q t _ ht ac (af ht _)⟩
end
theorem zjq:LD "GREATEST_TOTAL":=by decide +kernel
theorem zjr:LD "sizes":=by decide +kernel
theorem zjs:LS "sizes":=by decide +kernel
theorem zjt:LD "sorted":=by decide +kernel
theorem zju:LM "sorted":=by decide +kernel
theorem zjv:LD "sum":=by decide +kernel
theorem zjw:LM "sum":=by decide +kernel
theorem zjx:LD "total":=by decide +kernel
theorem zjy:LS "total":=by decide +kernel
section
variable {P:Program} {w:World} {K:PySem.W.Frag} {mg:Str→Option Value} {base:Heap}
theorem jV {H:Hp}:∀ {bs:List Addr} {rs:List (List Nat)},Paired (fun a r=>H a=some (.lst (rV r))) bs rs→Paired (jA H) (bs.map V.ref) rs
 | _,_,.nil=>.nil
 | _,_,.cons e h=>.cons ⟨_,rfl,e⟩ (jV h)
theorem je {α β γ:Type} {R:β→γ→Prop} {f:α→β} {g:α→γ}:∀ l:List α,(∀ i∈l,R (f i) (g i))→Paired R (l.map f) (l.map g)
 | [],_=>.nil
 | i::l,h=>.cons (h i List.mem_cons_self) (je l fun j hj=>h j (List.mem_cons_of_mem _ hj))
abbrev aW:Stmt:=top 27
theorem zjz:aB ["signs","total","sizes","kind"] ["signs","total"] (ah aW):=⟨rfl,rfl,rfl,by decide +kernel,rfl,by decide +kernel,by decide +kernel⟩
theorem zj0:LN .globalImplicit aW "GREATEST_TOTAL":=by decide +kernel
theorem zj1:LN .globalImplicit aW "NoSize":=by decide +kernel
theorem zj2:LN .globalImplicit aW "is_whole":=by decide +kernel
theorem zj3:LN .local aW "kind":=by decide +kernel
theorem zj4:LN .local aW "signs":=by decide +kernel
theorem zj5:LN .local aW "sizes":=by decide +kernel
theorem zj6:LN .globalImplicit aW "sorted":=by decide +kernel
theorem zj7:LN .cell aW "total":=by decide +kernel
abbrev QS8:Scope:={kind:=PySem.ScopeKind.function,names:=[ (PySem.Str.ofString ".0",PySem.NameKind.local),(PySem.Str.ofString "size",PySem.NameKind.local),(PySem.Str.ofString "sum",PySem.NameKind.globalImplicit),(PySem.Str.ofString "total",PySem.NameKind.free)],isGenerator:=false,isCoroutine:=false,more:=[]:PySem.Scope}
theorem zj8:cw 1 ["size","signs","total","sizes","kind"] ["signs","total","sizes","kind"] (ah aW) QS8:=⟨rfl,by decide +kernel,by decide +kernel,by decide +kernel,by decide +kernel,rfl,by decide +kernel⟩
theorem zj9:LC .local QS8 "size":=by decide +kernel
theorem zka:LC .globalImplicit QS8 "sum":=by decide +kernel
theorem zkb:LC .free QS8 "total":=by decide +kernel
abbrev QS9:Scope:={kind:=PySem.ScopeKind.function,names:=[ (PySem.Str.ofString ".0",PySem.NameKind.local),(PySem.Str.ofString "size",PySem.NameKind.local),(PySem.Str.ofString "number",PySem.NameKind.local),(PySem.Str.ofString "range",PySem.NameKind.globalImplicit),(PySem.Str.ofString "MOST_THINGS",PySem.NameKind.globalImplicit)],isGenerator:=false,isCoroutine:=false,more:=[]:PySem.Scope}
theorem zkc:cw 2 ["size","number","signs","total","sizes","kind"] ["signs","total","sizes","kind"] (ah aW) QS9:=⟨rfl,by decide +kernel,by decide +kernel,by decide +kernel,by decide +kernel,rfl,by decide +kernel⟩
theorem zkd:LC .globalImplicit QS9 "MOST_THINGS":=by decide +kernel
theorem zke:LC .local QS9 "number":=by decide +kernel
theorem zkf:LC .globalImplicit QS9 "range":=by decide +kernel
theorem zkg:LC .local QS9 "size":=by decide +kernel
abbrev y0:Scope:={kind:=.function,names:=[(Str.ofString "size",.local),(Str.ofString "sum",.globalImplicit)],isGenerator:=false,isCoroutine:=false,more:=[]}
abbrev iE:Str:=(PyProof.Rows.envOfC "sizes_to" (ah aW) 0 0 .none).qual++Str.ofString "<lambda>"
theorem lsS:li (Str.ofString "size") y0:=⟨rfl,rfl,rfl,by decide +kernel,by decide +kernel,by decide +kernel⟩
abbrev en (H:Hp):List Addr→List (List Nat)→Prop:=Paired fun a r=>H a=some (.lst (rV r))
def iJ (C N T:Addr):Sp:=fun vs H Q E=>∃ (g:Addr) (v:V) (ks:List Str) (ts:List br) (fs:List bt),vs=[.ref g,v]∧bC C H g ks ts fs∧ks.length≤4∧Sh H v∧TblOk H T iE∧
 (∀ t:Nat,v=.int t→t≤16→∀ D as H',H D=none→(∀ a∈as,H a=none)→H' D=some (.lst (as.map V.ref))→en H' as (due ks.length t)→ay T H H'→TblOk H' T iE→Q (.ref D) H')∧
 ((∀ t:Nat,v=.int t→16<t)→∀ H',av H H'→E (.ref N) none H')
theorem sf {C N TT fS c f1:Addr} {fdS fd1:FuncData} (F:Fun K "sizes_to" "sizes_to" aW fS fdS) (Z:Bl mg) (n_sum:mg "sum"=none) (n_sorted:mg "sorted"=none) (hcd:fdS.code=.ref c) (hC:PySem.W.CodeHd base c TT) (hB:base.BuiltinsAt mg TT) (T:ClS K C) (O_NoSize:ll K mg "NoSize" N)
  (GT:∃ u,mg "MOST_THINGS"=some u∧aM (.int 4) u) (GG:∃ u,mg "GREATEST_TOTAL"=some u∧aM (.int 16) u) (m_kinds:oJ K C "kinds" f1) (G_kinds:dk P w K mg base CX0 1 f1 fd1 ["self"] (iI C)) (b_kinds:cH K fd1 ["self"] [])
  (D_is_whole:fY P w K mg base "is_whole" 1 ["thing"] iW):dk P w K mg base (CX1 P w) 5 fS fdS ["signs","total"] (iJ C N TT):=by
 have SC:=zjz
 obtain⟨_,g_MOST_THINGS,r_MOST_THINGS⟩:=GT
 obtain⟨_,g_GREATEST_TOTAL,r_GREATEST_TOTAL⟩:=GG
 refine F.okEC (k:=4) hcd zjz (fun vs H Q E h=>?_) (fun A outer s H vs Q E hr h=>?_)
 ·obtain⟨g,v,ks,ts,fs,rfl,_⟩:=h
  rfl
 ·obtain⟨g,v,ks,ts,fs,rfl,hS,k4,hv,tb,q,no⟩:=h
  have one:1≤sizeLine:=by decide
  refine'⟨_,?derivation,?_⟩
  case derivation=>refine' ak ?Aa ?Ba;(case Aa=>refine' cy ?Ca ?Da bq;(case Ca=>refine' PW.pt ?Ea;case Ea=>refine' eV ?Fa ?Ga;(case Fa=>refine' cf ?Ha;case Ha=>refine' cA ?Ia ?Ja;(case Ia=>refine' fO (hdb:=zhr) bT D_is_whole (hr.mono (by decide)) zj2 ?Ka rfl rfl;case Ka=>refine' aa (pq 1 (d4 zj7) zjx zjy) ae ?La;case La=>rfl);case Ja=>intro _; rfl);case Ga=>refine' dL ?Ma;case Ma=>refine' cf ?Na;case Na=>refine' gD f9 f9 ?Oa (pq 1 (d4 zj7) zjx zjy) ?Pa ?Qa;(case Oa=>exact aq);(case Pa=>refine' bJ (hd:=zjq) zj0 g_GREATEST_TOTAL r_GREATEST_TOTAL);case Qa=>with_unfolding_all rfl);case Da=>refine' am ?Ra;case Ra=>refine' i6 (hdb:=zhm) bT rfl O_NoSize zj1 ?Sa rfl rfl;case Sa=>refine' aa ?Ta ae ?Ua;(case Ta=>exact gh);case Ua=>rfl);case Ba=>refine' ak ?Va ?Wa;(case Va=>refine' bc (i:=2) (x:=Str.ofString "sizes") ?Xa ?Ya ?Za ?Ab ?Bb ?Cb;(case Xa=>exact SC.nd);(case Ya=>exact rfl);(case Za=>exact(Or.inl zj5));(case Ab=>refine' aU ?Db;case Db=>refine' aa ?Eb ae ?Fb;(case Eb=>refine' aU ae);case Fb=>rfl);(case Bb=>rfl);case Cb=>exact .inl rfl);case Wa=>refine' ak ?Gb ?Hb;(case Gb=>refine' cg dZ rfl ?Ib ?Jb ?Kb ?Lb;(case Ib=>refine' bn ?Mb;case Mb=>refine' fm (pq 0 (ap zj4) zhu zhv) T.cl m_kinds G_kinds (hr.mono (by decide)) b_kinds .nil ix rfl);(case Jb=>refine' au (i:=3) (x:=Str.ofString "kind") SC.nd rfl (Or.inl zj3) (.inl rfl));(case Kb=>refine' am ?Nb;case Nb=>refine' uJ ?Ob;case Ob=>refine' iw (i:=2) (x:=Str.ofString "sizes") SC.nd rfl (Or.inl zj5) rfl gF rfl zkc.at ?Pb ?Qb ?Rb ?Sb ?Tb ?Ub ?Vb ?Wb (.inl rfl);(case Pb=>refine' bn (pq 2 (ap zj5) zjr zjs));(case Qb=>intro _ _ _ _ _;refine' au (i:=0) zkc.nd rfl (eL zkg) (.inr (lookup_relabel_local zkg)));(case Rb=>intro _ _ _ _ _;refine' qc (glO zkf) Z.n_range ?Xb rfl rfl;case Xb=>refine' aa ?Yb ?Zb ?Ac;(case Yb=>exact aq);(case Zb=>refine' aa ?Bc ae ?Cc;(case Bc=>refine' bW gi ?Dc ?Ec;(case Dc=>refine' bJ (hd:=zhl) (glO zkd) g_MOST_THINGS r_MOST_THINGS);case Ec=>exact aq);case Cc=>rfl);case Ac=>rfl);(case Sb=>intro _ _ _ _ _;refine' au (i:=1) zkc.nd rfl (eL zke) (.inr (lookup_relabel_local zke)));(case Tb=>intro _ _ _ _ _;exact pb);(case Ub=>intro _ _ _ _ _;refine' bW fo (pq 0 (eW zkg) zhw zhx) ?Fc;case Fc=>refine' aU ?Gc;case Gc=>refine' aa (pq 1 (eW zke) zhs zht) ae ?Hc;case Hc=>rfl);(case Vb=>intro _; rfl);case Wb=>intro _ _ _ _ _ _; rfl);case Lb=>intro _; rfl);case Hb=>refine' am ?Ic;case Ic=>refine' aO ?Jc;case Jc=>refine' nI (k:=0) (te:=fun _=>wo K) (hn:=zju) (hdb:=zjt) ?Kc zj6 n_sorted j9 (hr.mono (by decide)) rfl hC hB lsS rfl rfl ?Lc ?Mc (sO n_sum (by decide +kernel) (by decide +kernel) (by decide +kernel) (by decide +kernel)) ?Nc;(case Kc=>refine' rO bT rfl zj8.at ?Oc ?Pc ?Qc ?Rc ?Sc;(case Oc=>refine' bn (pq 2 (ap zj5) zjr zjs));(case Pc=>intro _ _ _ _ _;refine' au (i:=0) zj8.nd rfl (eL zj9) (.inr (lookup_relabel_local zj9)));(case Qc=>intro _ _ _ _ _;refine' bO f9 ?Tc (pq 2 (eZ zkb) zjx zjy) (ck _);case Tc=>refine' aD (hn:=zjw) (hdb:=zjv) (gP hr.hd) (glO zka) n_sum kX ?Uc rfl rfl;case Uc=>refine' aa (pq 0 (eW zj9) zhw zhx) ae ?Vc;case Vc=>rfl);(case Rc=>intro _ _ _ _ _;exact(pq 0 (eW zj9) zhw zhx));case Sc=>intro _; rfl);(case Lc=>intro _;exact rfl);(case Mc=>intro _ _ _ _ _ _;exact rfl);case Nc=>intro _;exact sS
  refine⟨_,rfl,v,rfl,hv,?_⟩
  have bad:¬ (∃ t:Nat,v=.int t∧t≤16)→E (.ref N) none H:=fun h=>no (fun t e=>Nat.lt_of_not_le fun z=>h ⟨t,e,z⟩) H (av.refl _)
  cases v with
  | int n=>
   refine⟨true,rfl,eX ?_⟩
   refine⟨_,rfl,_,_,rfl,rfl,_,rfl,?_⟩
   by_cases h1:0≤n
   rotate_left
   ·exact ifF (by simp; omega) ⟨false,rfl,oh ⟨one,bad fun ⟨t,e,_⟩=>h1 (by cases e; omega)⟩⟩
   refine ifT (decide_eq_true h1) ?_
   refine⟨_,_,rfl,rfl,_,rfl,?_⟩
   by_cases h4:n≤16
   rotate_left
   ·exact ifT (by simp; omega) ⟨one,bad fun ⟨t,e,z⟩=>h4 (by cases e; omega)⟩
   refine ifF (by simp; omega) ?_
   obtain⟨t,rfl⟩:∃ t:Nat,n=t:=⟨n.toNat,by omega⟩
   replace q:=q t rfl (by omega)
   clear bad no
   refine⟨by show 0≤sizeLine; decide,fun t0 ht=>⟨one,fun l0 hl0=>?_⟩⟩
   have s1:av H (upd (upd H t0 (.lst [])) l0 (.lst [.ref t0])):=(af ht _).trans (af hl0 _)
   have et:(upd (upd H t0 (.lst [])) l0 (.lst [.ref t0])) t0=some (.lst []):=af hl0 _ _ _ ac
   have el:(upd (upd H t0 (.lst [])) l0 (.lst [.ref t0])) l0=some (.lst [.ref t0]):=ac
   have fl:H l0=none:=(af ht (.lst [])).free hl0
   generalize (upd (upd H t0 (.lst [])) l0 (.lst [.ref t0]))=G at s1 et el
   obtain⟨dg,_,_,_,_,_,g2,_⟩:=id (hS.same s1)
   refine⟨_,rfl,g,dg,_,rfl,g2,jh,g,ks,ts,fs,rfl,hS.same s1,fun lk hlk=>⟨lk,rfl,⟨_,SqL.of ac⟩,?_⟩⟩
   have s2:=af hlk (.lst (ks.map V.str))
   have ek:(upd G lk (.lst (ks.map V.str))) lk=some (.lst (ks.map V.str)):=ac
   have et2:=s2 _ _ et
   have el2:=s2 _ _ el
   generalize upd G lk (.lst (ks.map V.str))=G1 at s2 ek et2 el2
   refine bM (K:=K) (a:=lk) (xs:=ks.map V.str) (fun i σ H2=>∃ (l:Addr) (as:List Addr) (v3:Option V),σ=[some (.ref g),some (.int t),some (.ref l),v3]∧av H H2∧H l=none∧(∀ a∈as,H a=none)∧H2 l=some (.lst (as.map V.ref))∧en H2 as (rowsN i)∧H2 lk=some (.lst (ks.map V.str)))
    ⟨l0,[t0],none,rfl,s1.trans s2,fl,by simp [ht],el2,.cons et2 .nil,ek⟩ (fun i σ H2 _ ⟨_,_,_,_,_,_,_,_,_,z⟩=>SqL.of z) ?_ ?_
   ·rintro i y σ H2 hi ⟨l,as,v3,rfl,s3,hl,ha,el,hr2,ek2⟩
    have i4:i<4:=by
     have:=(List.getElem?_eq_some_iff.mp hi).1
     rw [List.length_map] at this; omega
    have rsl:(rowsN i).length≤64:=by
     rw [cY]
     exact Nat.le_trans (Nat.pow_le_pow_right (by decide) (show i≤3 by omega)) (by decide)
    have rl:∀ r∈rowsN i,r.length≤4:=fun r hr=>by rw [(gy hr).1]; omega
    have asl:as.length=(rowsN i).length:=Paired.length hr2
    have enx:rowsN (i+1)=dP (rowsN i):=rfl
    generalize rowsN i=rs at hr2 rsl asl enx rl
    refine⟨_,rfl,l,rfl,⟨_,SqL.of el⟩,fun cl C' ex s0 Hc=>mP as.length (fun i' ys H3=>∃ bs:List Addr,ys=bs.map V.ref∧av H2 H3∧(∀ b∈bs,H b=none)∧en H3 bs (dP (rs.take i'))) (fun i' x=>(as.map V.ref)[i']? = some x) ⟨[],rfl,av.refl _,(fun _ z=>nomatch z),.nil⟩
     (fun i' ys H3 hi' ⟨_,_,s4,_⟩=>dU (SqL.of (s4 _ _ el)) (by rw [List.length_map]; exact hi')) (fun ys H3 ⟨_,_,s4,_⟩=>by have:=cQ (K:=K) (SqL.of (K:=K) (s4 _ _ el)); rw [List.length_map] at this; exact this) ?_ ?_ lw ?_⟩
    ·rintro i' x ys H3 v1 hi' hx ⟨bs,rfl,s4,fb,r3⟩
     rw [List.getElem?_map] at hx
     obtain⟨ra,hra,rfl⟩:=Option.map_eq_some_iff.mp hx
     obtain⟨r,hr',er⟩:=Paired.at hr2 hra
     have bsl:bs.length≤256:=by
      rw [Paired.length r3,eO,List.length_take]; omega
     have esucc:dP (rs.take (i'+1))=dP (rs.take i')++[1,2,3,4].map fun x=>r++[x]:=by
      rw [List.take_succ,hr']
      unfold dP
      rw [List.flatMap_append]
      simp
     refine⟨_,_,rfl,rfl,1,5,rfl,by decide,?_⟩
     refine⟨4,fun j zs H4=>∃ cs:List Addr,zs=cs.map V.ref∧av H2 H4∧j≤4∧(∀ b∈cs,H b=none)∧en H4 cs (dP (rs.take i')++([1,2,3,4].take j).map fun x=>r++[x]),fun j y=>y=.int (1+(j:Int)),⟨bs,rfl,s4,Nat.zero_le _,fb,by simpa using r3⟩,?_,?_,?_,?_⟩
     ·rintro j zs H4 ⟨cs,rfl,s5,hj,_,r4⟩
      have e:=Paired.length r4
      have e3:=Paired.length r3
      rw [List.length_append,List.length_map,List.length_take] at e
      rw [List.length_map]
      exact Nat.lt_of_le_of_lt (show cs.length≤300 by simp at e; omega) (by decide)
     ·rintro j zs H4 hj _
      exact ow (lo:=1) (n:=4) hj
     ·rintro zs H4 ⟨cs,rfl,s5,_,fc,r4⟩
      exact⟨iU (lo:=1) (n:=4),cs,rfl,s5,fc,by rw [esucc]; exact r4⟩
     ·rintro j y zs H4 hj rfl ⟨cs,rfl,s5,_,fc,r4⟩
      refine qS ?_
      refine ifT rfl ?_
      refine⟨_,rfl,_,rfl,one,fun p hp=>?_⟩
      have s6:=af hp (.lst [V.int (1+(j:Int))])
      have eN:([1,2,3,4]:List Nat).take (j+1)=([1,2,3,4]:List Nat).take j++[j+1]:=by
       match j,hj with
       | 0,_=>rfl
       | 1,_=>rfl
       | 2,_=>rfl
       | 3,_=>rfl
      refine⟨ra,p,rV r,_,rfl,rfl,s6 _ _ (s5 _ _ er),ac,Nat.le_trans (show _≤100 from ?_) (by decide),fun p2 hp2=>?_⟩
      ·have:=rl r (List.mem_of_getElem? hr')
       rw [List.length_map]
       show r.length+1≤100
       omega
      have s7:=af hp2 (.lst (rV r++[V.int (1+(j:Int))]))
      refine⟨cs++[p2],by simp,s5.trans (s6.trans s7),hj,fun b hb=>?_,?_⟩
      ·rcases List.mem_append.mp hb with hb | hb
       ·exact fc b hb
       ·rw [List.mem_singleton.mp hb]
        exact s3.free (s5.free (s6.free hp2))
      ·rw [eN,List.map_append,← List.append_assoc]
       refine Paired.app (Paired.mapP r4 fun _ _ e=>(s6.trans s7) _ _ e) (.cons ?_ .nil)
       rw [ac]
       congr 1; congr 1
       show rV r++[V.int (1+(j:Int))]=rV (r++[j+1])
       rw [show rV (r++[j+1])=rV r++[V.int ((j+1:Nat):Int)] from List.map_append,show (1+(j:Int))=((j+1:Nat):Int) by omega]
    ·rintro ys H3 ⟨bs,rfl,s4,fb,r3⟩ D hD
     have s5:=af hD (.lst (bs.map V.ref))
     refine⟨D,bs,_,rfl,(s3.trans s4).trans s5,(s3.trans s4).free hD,fb,ac,?_,s5 _ _ (s4 _ _ ek2)⟩
     rw [enx]
     rw [asl,List.take_length] at r3
     exact Paired.mapP r3 fun _ _ e=>s5 _ _ e
    ·rintro σ' H' Q1 Q2 ⟨a',b',e1,e2,c',d',e3,bd,h5⟩ k5
     exact⟨a',b',e1,e2,c',d',e3,bd,k5 _ _ h5⟩
   ·rintro σ H2 ⟨l,as,v3,rfl,s3,hl,ha,el,hr2,ek2⟩
    rw [List.length_map] at hr2
    have asl:as.length=(rowsN ks.length).length:=Paired.length hr2
    have rsl:=lM k4
    refine⟨_,rfl,l,rfl,⟨_,SqL.of el⟩,fun cl C' ex s0 Hc=>mO as.length (fun i' ys H3=>H3=H2∧∃ bs:List Addr,ys=bs.map V.ref∧(∀ b∈bs,H b=none)∧en H2 bs (((rowsN ks.length).take i').filter fun r=>decide (r.sum≤t))) (fun i' x=>(as.map V.ref)[i']? = some x) ⟨rfl,[],rfl,(fun _ z=>nomatch z),.nil⟩
     ?_ (fun i' ys H3 hi' ⟨z,_⟩=>by rw [z]; exact dU (SqL.of el) (by rw [List.length_map]; exact hi')) (fun ys H3 ⟨z,_⟩=>by rw [z]; have:=cQ (K:=K) (SqL.of (K:=K) el); rw [List.length_map] at this; exact this) ?_ ?_ ?_⟩
    ·rintro i' ys H3 hi' ⟨rfl,bs,rfl,_,r3⟩
     rw [List.length_map,Paired.length r3]
     refine Nat.lt_of_le_of_lt (Nat.le_trans (List.length_filter_le _ _) ?_) (show 256<sizeLine by decide)
     rw [List.length_take]; omega
    ·rintro i' x ys H3 hi' hx ⟨rfl,bs,rfl,fb,r3⟩
     rw [List.getElem?_map] at hx
     obtain⟨ra,hra,rfl⟩:=Option.map_eq_some_iff.mp hx
     obtain⟨r,hr',er⟩:=Paired.at hr2 hra
     refine⟨_,rfl,ra,r,rfl,SqL.of er,_,rfl,_,_,rfl,rfl,_,rfl,?_⟩
     have e:(rowsN ks.length).take (i'+1)=(rowsN ks.length).take i'++[r]:=by rw [List.take_succ,hr']; rfl
     by_cases hs:r.sum≤t
     ·refine ifT (by simp; omega) ?_
      refine⟨_,rfl,rfl,bs++[ra],by simp,fun b hb=>?_,?_⟩
      ·rcases List.mem_append.mp hb with hb | hb
       ·exact fb b hb
       ·rw [List.mem_singleton.mp hb]; exact ha ra (List.mem_of_getElem? hra)
      ·rw [e,List.filter_append,List.filter_cons_of_pos (by simpa using hs)]
       exact Paired.app r3 (.cons er .nil)
     ·refine ifF (by simp; omega) ⟨rfl,bs,rfl,fb,?_⟩
      rw [e,List.filter_append,List.filter_cons_of_neg (by simpa using hs),List.filter_nil,List.append_nil]
      exact r3
    ·rintro ys H3 ⟨rfl,bs,rfl,fb,r3⟩ D hD
     rw [asl,List.take_length] at r3
     have r3:en H3 bs (szs ks.length t):=r3
     have s4:=af hD (.lst (bs.map V.ref))
     have tb4:TblOk (upd H3 D (.lst (bs.map V.ref))) TT iE:=tb.same (s3.trans s4)
     have lb:bs.length=(szs ks.length t).length:=Paired.length r3
     have hp:=oP (m:=ks.length) (t:=t) k4 (by omega)
     refine⟨D,bs.map V.ref,szs ks.length t,ks.length,plc ks.length t,rfl,SqL.of ac,by rw [List.length_map,lb]; exact Nat.le_trans (rh k4 t) (by decide),?_,fun r hr=>rf hr,k4,hp,tb4,fun D2 H4 hD2 e4 sx tok=>?_⟩
     ·have go:∀ {bs:List Addr} {rs:List (List Nat)},en H3 bs rs→Paired (jA (upd H3 D (.lst (bs.map V.ref)))) (bs.map V.ref) rs→True:=fun _ _=>trivial
      exact jV (Paired.mapP r3 fun _ _ e=>s4 _ _ e)
     ·have hlt:∀ i∈plc ks.length t,i<bs.length:=fun i hi=>by
       have:=(Srt.srt_ok hp).1 i hi
       rw [List.length_map] at this; omega
      have ev:((plc ks.length t).map fun i=>(bs.map V.ref).getD i .non)=((plc ks.length t).map fun i=>bs.getD i 0).map V.ref:=by
       rw [List.map_map]
       refine List.map_congr_left fun i hi=>?_
       have:=hlt i hi
       simp [this]
      refine q D2 ((plc ks.length t).map fun i=>bs.getD i 0) H4 (s3.free (s4.free hD2)) (fun a ha'=>?_) (by rw [← ev]; exact e4) ?_ (fun b o n e=>sx b o n (s4 _ _ (s3 _ _ e))) tok
      ·obtain⟨i,hi,rfl⟩:=List.mem_map.mp ha'
       have:=hlt i hi
       refine fb _ ?_
       rw [List.getD_eq_getElem?_getD,List.getElem?_eq_getElem this]
       exact List.getElem_mem this
      ·unfold due
       refine je _ fun i hi=>?_
       have h1:=hlt i hi
       have h2:i<(szs ks.length t).length:=by omega
       have:=dB r3 (i:=i) (x:=bs[i]) (y:=(szs ks.length t)[i]) (by simp [h1]) (by simp [h2])
       rw [List.getD_eq_getElem?_getD,List.getElem?_eq_getElem h1,List.getD_eq_getElem?_getD,List.getElem?_eq_getElem h2]
       have e5:=s4 _ _ this
       exact sx _ _ (fun z=>tb4.nl _ (by rw [← z]; exact e5)) e5
    ·rintro σ' H' Q1 Q2 ⟨v0,e0,l',r',e1,sq,v1,e2,i1,j1,e3,e4,b1,e5,h⟩ k5
     exact⟨v0,e0,l',r',e1,sq,v1,e2,i1,j1,e3,e4,b1,e5,k5 _ _ h⟩
  | _=>exact⟨false,rfl,oh ⟨one,bad fun ⟨t,e,_⟩=>by cases e⟩⟩
end
theorem zkh:LD "_law_book_here":=by decide +kernel
theorem zki:LS "_law_book_here":=by decide +kernel
theorem zkj:LD "_law_kind":=by decide +kernel
theorem zkk:LS "_law_kind":=by decide +kernel
theorem zkl:LD "_law_longer":=by decide +kernel
theorem zkm:LS "_law_longer":=by decide +kernel
theorem zkn:LD "_law_many":=by decide +kernel
theorem zko:LD "_law_row":=by decide +kernel
theorem zkp:LS "_law_row":=by decide +kernel
theorem zkq:LD "_law_rows_here":=by decide +kernel
theorem zkr:LS "_law_rows_here":=by decide +kernel
theorem zks:LD "_law_size_here":=by decide +kernel
theorem zkt:LS "_law_size_here":=by decide +kernel
theorem zku:LD "_law_thing":=by decide +kernel
theorem zkv:LS "_law_thing":=by decide +kernel
abbrev eS (H:Hp) (b:Addr) (ks:List Str) (ts:List br) (fs:List bt):Prop:=RdV Any H (.ref b) (mV ks ts fs)
theorem eS.open {H:Hp} {b:Addr} {ks:List Str} {ts:List br} {fs:List bt} (h:eS H b ks ts fs):∃ k t f tv fv,H b=some (.tup [.ref k,.ref t,.ref f])∧H k=some (.lst (ks.map V.str))∧H t=some (.lst tv)∧RdA Any H tv (ts.map pU)∧H f=some (.lst fv)∧RdA Any H fv (fs.map qE):=by
 obtain⟨_,bx,e,_,hb,hbx⟩:=h.tuple_inv
 cases e
 obtain⟨kv,tv,fv,rfl,hk,ht,hf⟩:=hbx.three
 obtain⟨k,kx,rfl,_,hk1,hk2⟩:=hk.list_inv
 obtain rfl:=hk2.strs_inv
 obtain⟨t,tx,rfl,_,ht1,ht2⟩:=ht.list_inv
 obtain⟨f,fx,rfl,_,hf1,hf2⟩:=hf.list_inv
 exact⟨k,t,f,tx,fx,hb,hk1,ht1,ht2,hf1,hf2⟩
abbrev eR (H:Hp):List Addr→List CK→Prop:=Paired fun q k=>dD H k q
theorem eR.tups {H H':Hp} (ht:kZ H H') {as:List Addr} {rs:List CK} (h:eR H as rs):eR H' as rs:=Paired.mapP h fun a r e=>e.keep ht
section
variable {P:Program} {w:World} {K:PySem.W.Frag} {mg:Str→Option Value} {base:Heap}
abbrev dv:Stmt:=top 47
theorem zkw:aB ["_law_book_here","_law_size_here","_law_kind"] ["_law_book_here","_law_size_here","_law_kind"] (ah dv):=⟨rfl,rfl,rfl,by decide +kernel,rfl,by decide +kernel,by decide +kernel⟩
theorem zkx:LN .local dv "_law_book_here":=by decide +kernel
theorem zky:LN .local dv "_law_kind":=by decide +kernel
theorem zkz:LN .local dv "_law_size_here":=by decide +kernel
def nh:Sp:=fun vs H Q _=>∃ (b z:Addr) (ks:List Str) (ts:List br) (fs:List bt) (ns:List Nat) (k:Str),vs=[.ref b,.ref z,.str k]∧eS H b ks ts fs∧H z=some (.lst (ns.map iV))∧ci ks ns∧k∈ks∧Q (.int (many ks ns k)) H
theorem uR (F:aL K mg "_law_many" dv ["_law_book_here","_law_size_here","_law_kind"]) (Z:Bl mg):Def P w K mg base "_law_many" 1 ["_law_book_here","_law_size_here","_law_kind"] nh:=by
 have SC:=zkw
 refine F.mk' (k:=0) zkw (fun vs H Q E h=>?_) (fun f cdv A outer s H vs Q E hr h=>?_)
 ·obtain⟨b,z,ks,ts,fs,ns,k,rfl,_⟩:=h
  rfl
 ·obtain⟨b,z,ks,ts,fs,ns,k,rfl,hb,hz,sz,hk,q⟩:=h
  obtain⟨kA,tA,fA,tv,fv,b1,k1,t1,t2,f1,f2⟩:=hb.open
  refine'⟨_,?derivation,?_⟩
  case derivation=>refine' am ?Aa;case Aa=>refine' aO ?Ba;case Ba=>refine' cb cI (pq 1 (ap zkz) zks zkt) ?Ca ?Da;(case Ca=>refine' jb PySem.F.plainAttrs_list PySem.F.slot_list_index PySem.F.type_list_index sE ?Ea ?Fa rfl rfl rfl rfl rfl;(case Ea=>refine' cb cB (pq 0 (ap zkx) zkh zki) ?Ga ?Ha;(case Ga=>exact aq);case Ha=>intro _ _;exact rfl);case Fa=>refine' aa (pq 2 (ap zky) zkj zkk) ae ?Ia;case Ia=>rfl);case Da=>intro _ _;exact rfl
  have hi:ks.idxOf k<ns.length:=by rw [sz.len]; exact List.idxOf_lt_length_iff.mpr hk
  refine⟨_,rfl,_,rfl,b,_,_,_,rfl,rfl,SqT.of b1,rfl,.inl ⟨rfl,_,SqL.of k1⟩,_,rfl,kA,ks,k,rfl,rfl,SqL.of k1,hk,?_⟩
  refine⟨z,_,_,_,rfl,rfl,SqL.of hz,pJ (v:=V.int (many ks ns k)) ?_,q⟩
  rw [List.getElem?_map,List.getElem?_eq_getElem hi]
  unfold many
  rw [List.getD_eq_getElem?_getD,List.getElem?_eq_getElem hi]
  rfl
theorem gp {H:Hp} {D:Addr} {xs:List V} (h:H D=some (.lst xs)) (o:HO):kZ H (upd H D o):=fun a ys e=>by
 rw [ag (fun z=>by rw [z,h] at e; cases e)]; exact e
theorem qU {N j:Nat} (hj:j<N):(upN N).take (j+1)=(upN N).take j++[(j:Int)]:=by
 rw [List.take_succ]
 congr 1
 unfold upN
 rw [List.getElem?_map,List.getElem?_range hj]; rfl
theorem qA {N i:Nat} {rs:List (List Int)} {r:List Int} (h:rs[i]? = some r):dN N (rs.take (i+1))=dN N (rs.take i)++(upN N).map fun t=>r++[t]:=by
 rw [List.take_succ,h]
 unfold dN
 rw [List.flatMap_append]
 simp
abbrev bw:Stmt:=top 48
theorem zk0:aB ["_law_book_here","_law_size_here","_law_places","_law_rows_here","_law_kind","_law_longer","_law_row"] ["_law_book_here","_law_size_here","_law_places"] (ah bw):=⟨rfl,rfl,rfl,by decide +kernel,rfl,by decide +kernel,by decide +kernel⟩
theorem zk1:LN .local bw "_law_book_here":=by decide +kernel
theorem zk2:LN .local bw "_law_kind":=by decide +kernel
theorem zk3:LN .local bw "_law_longer":=by decide +kernel
theorem zk4:LN .globalImplicit bw "_law_many":=by decide +kernel
theorem zk5:LN .local bw "_law_places":=by decide +kernel
theorem zk6:LN .cell bw "_law_row":=by decide +kernel
theorem zk7:LN .local bw "_law_rows_here":=by decide +kernel
theorem zk8:LN .local bw "_law_size_here":=by decide +kernel
theorem zk9:LN .globalImplicit bw "range":=by decide +kernel
abbrev xn:Scope:={kind:=PySem.ScopeKind.function,names:=[ (PySem.Str.ofString ".0",PySem.NameKind.local),(PySem.Str.ofString "_law_thing",PySem.NameKind.local),(PySem.Str.ofString "_law_row",PySem.NameKind.free)],isGenerator:=false,isCoroutine:=false,more:=[]:PySem.Scope}
theorem zla:cw 1 ["_law_thing","_law_book_here","_law_size_here","_law_places","_law_rows_here","_law_kind","_law_longer","_law_row"] ["_law_book_here","_law_size_here","_law_places","_law_rows_here","_law_kind","_law_longer","_law_row"] (ah bw) xn:=⟨rfl,by decide +kernel,by decide +kernel,by decide +kernel,by decide +kernel,rfl,by decide +kernel⟩
theorem zlb:LC .free xn "_law_row":=by decide +kernel
theorem zlc:LC .local xn "_law_thing":=by decide +kernel
def oV:Sp:=fun vs H Q _=>∃ (b z a:Addr) (ks:List Str) (ts:List br) (fs:List bt) (ns:List Nat) (ps:List Str),vs=[.ref b,.ref z,.ref a]∧eS H b ks ts fs∧H z=some (.lst (ns.map iV))∧ci ks ns∧H a=some (.lst (ps.map V.str))∧(∀ p∈ps,p∈ks)∧ps.length≤2∧
 ∀ l as H',H l=none→H' l=some (.lst (as.map V.ref))→dC H' as (ej ks ns ps)→av H H'→Q (.ref l) H'
theorem sj (F:aL K mg "_law_rows" bw ["_law_book_here","_law_size_here","_law_places"]) (Z:Bl mg) (D_law_many:Def P w K mg base "_law_many" 1 ["_law_book_here","_law_size_here","_law_kind"] nh):Def P w K mg base "_law_rows" 2 ["_law_book_here","_law_size_here","_law_places"] oV:=by
 have SC:=zk0
 refine F.mk' (k:=1) zk0 (fun vs H Q E h=>?_) (fun f cdv A outer s H vs Q E hr h=>?_)
 ·obtain⟨b,z,a,ks,ts,fs,ns,ps,rfl,_⟩:=h
  rfl
 ·obtain⟨b,z,a,ks,ts,fs,ns,ps,rfl,hb,hz,ok,ha,hin,h2,q⟩:=h
  refine'⟨_,?derivation,?_⟩
  case derivation=>refine' ak ?Aa ?Ba;(case Aa=>refine' bc (i:=3) (x:=Str.ofString "_law_rows_here") ?Ca ?Da ?Ea ?Fa ?Ga ?Ha;(case Ca=>exact SC.nd);(case Da=>exact rfl);(case Ea=>exact(Or.inl zk7));(case Fa=>refine' aU ?Ia;case Ia=>refine' aa ?Ja ae ?Ka;(case Ja=>refine' cj ae);case Ka=>rfl);(case Ga=>rfl);case Ha=>exact .inl rfl);case Ba=>refine' ak ?La ?Ma;(case La=>refine' cg PassesOwn.never rfl ?Na ?Oa ?Pa ?Qa;(case Na=>refine' bn (pq 2 (ap zk5) zcu zcv));(case Oa=>refine' au (i:=4) (x:=Str.ofString "_law_kind") SC.nd rfl (Or.inl zk2) (.inl rfl));(case Pa=>refine' ak ?Ra ?Sa;(case Ra=>refine' bc (i:=5) (x:=Str.ofString "_law_longer") ?Ta ?Ua ?Va ?Wa ?Xa ?Ya;(case Ta=>exact SC.nd);(case Ua=>exact rfl);(case Va=>exact(Or.inl zk3));(case Wa=>refine' aU ae);(case Xa=>rfl);case Ya=>exact .inl rfl);case Sa=>refine' ak ?Za ?Ab;(case Za=>refine' cg PassesOwn.never rfl ?Bb ?Cb ?Db ?Eb;(case Bb=>refine' bn (pq 3 (ap zk7) zkq zkr));(case Cb=>refine' au (i:=6) (x:=Str.ofString "_law_row") SC.nd rfl (Or.inr zk6) (.inl rfl));(case Db=>refine' am ?Fb;case Fb=>refine' cZ ?Gb rfl;case Gb=>refine' jb PySem.F.plainAttrs_list PySem.F.slot_list_extend PySem.F.type_list_extend hJ (pq 5 (ap zk3) zkl zkm) ?Hb rfl rfl rfl rfl rfl;case Hb=>refine' aa ?Ib ae ?Jb;(case Ib=>refine' dF gF rfl zla.at ?Kb ?Lb ?Mb ?Nb;(case Kb=>refine' eF zk9 Z.n_range ?Ob rfl;case Ob=>refine' aa ?Pb ae ?Qb;(case Pb=>refine' aJ (hdb:=zkn) D_law_many (hr.mono (by decide)) zk4 ?Rb rfl rfl;case Rb=>refine' aa (pq 0 (ap zk1) zkh zki) ?Sb ?Tb;(case Sb=>refine' aa (pq 1 (ap zk8) zks zkt) ?Ub ?Vb;(case Ub=>refine' aa (pq 4 (ap zk2) zkj zkk) ae ?Wb;case Wb=>rfl);case Vb=>rfl);case Tb=>rfl);case Qb=>rfl);(case Lb=>intro _ _ _ _ _;refine' au (i:=0) zla.nd rfl (eL zlc) (.inr (lookup_relabel_local zlc)));(case Mb=>intro _ _ _ _ _;refine' bW jf (pq 7 (eZ zlb) zko zkp) ?Xb;case Xb=>refine' cj ?Yb;case Yb=>refine' aa (pq 0 (eW zlc) zku zkv) ae ?Zb;case Zb=>rfl);case Nb=>intro _; rfl);case Jb=>rfl);case Eb=>intro _; rfl);case Ab=>refine' am ?Ac;case Ac=>refine' bc (i:=3) (x:=Str.ofString "_law_rows_here") ?Bc ?Cc ?Dc ?Ec ?Fc ?Gc;(case Bc=>exact SC.nd);(case Cc=>exact rfl);(case Dc=>exact(Or.inl zk7));(case Ec=>exact(pq 5 (ap zk3) zkl zkm));(case Fc=>rfl);case Gc=>exact .inl rfl);case Qa=>intro _; rfl);case Ma=>refine' am ?Hc;case Hc=>refine' aO (pq 3 (ap zk7) zkq zkr)
  refine⟨by show 0≤sizeLine; decide,fun t ht=>⟨by show 1≤sizeLine; decide,fun l0 hl0=>?_⟩⟩
  have s1:av H (upd (upd H t (.tup [])) l0 (.lst [.ref t])):=(af ht _).trans (af hl0 _)
  have et:(upd (upd H t (.tup [])) l0 (.lst [.ref t])) t=some (.tup []):=af hl0 _ _ _ ac
  have el:(upd (upd H t (.tup [])) l0 (.lst [.ref t])) l0=some (.lst [.ref t]):=ac
  have fl:H l0=none:=(af ht (.tup [])).free hl0
  generalize (upd (upd H t (.tup [])) l0 (.lst [.ref t]))=G at s1 et el
  refine⟨_,rfl,a,rfl,⟨_,SqL.of (s1 _ _ ha)⟩,bM (K:=K) (a:=a) (xs:=ps.map V.str) (fun i σ H2=>∃ (l:Addr) (as:List Addr) (v4 v5 v6:Option V),σ=[some (.ref b),some (.ref z),some (.ref a),some (.ref l),v4,v5,v6]∧av H H2∧H l=none∧H2 l=some (.lst (as.map V.ref))∧dC H2 as (cP ((ps.take i).map (many ks ns))))
   ⟨l0,[t],none,none,none,rfl,s1,fl,el,.cons et .nil⟩ (fun i σ H2 _ ⟨_,_,_,_,_,_,y,_⟩=>SqL.of (y _ _ ha)) ?_ ?_⟩
  ·rintro i y σ H2 hi ⟨l,as,v4,v5,v6,rfl,s2,hl,el,hr2⟩
   rw [List.getElem?_map] at hi
   obtain⟨k,hk,rfl⟩:=Option.map_eq_some_iff.mp hi
   have hkk:=hin k (List.mem_of_getElem? hk)
   obtain⟨m1,m4⟩:=ok.many hkk
   generalize hrs:cP ((ps.take i).map (many ks ns))=rs at hr2
   have rsl:rs.length≤16:=by
    rw [← hrs]
    exact dY ok (fun p hp=>hin p (List.mem_of_mem_take hp)) (by rw [List.length_take]; omega)
   have asl:as.length=rs.length:=Paired.length hr2
   have enx:cP ((ps.take (i+1)).map (many ks ns))=dN (many ks ns k) rs:=by
    rw [List.take_succ,hk,← hrs,← iu]
    show cP (List.map (many ks ns) (ps.take i++[k]))=_
    rw [List.map_append]; rfl
   generalize hN:many ks ns k=N at m1 m4 enx
   refine⟨by show 0≤sizeLine; decide,fun D hD=>?_⟩
   have s3:=af hD (.lst [])
   have nlD:l≠D:=al el hD
   refine⟨_,rfl,l,rfl,⟨_,SqL.of (s3 _ _ el)⟩,bM (K:=K) (a:=l) (xs:=as.map V.ref) (fun j σ H3=>∃ (v6:Option V) (bs:List Addr),σ=[some (.ref b),some (.ref z),some (.ref a),some (.ref l),some (.str k),some (.ref D),v6]∧av H2 H3∧H3 D=some (.lst (bs.map V.ref))∧dC H3 bs (dN N (rs.take j)))
    ⟨_,[],rfl,s3,ac,.nil⟩ (fun j σ H3 _ ⟨_,_,_,y,_⟩=>SqL.of (y _ _ el)) ?_ ?_⟩
   ·rintro j y σ H3 hj ⟨v6,bs,rfl,s4,e4,r4⟩
    rw [List.getElem?_map] at hj
    obtain⟨ra,hra,rfl⟩:=Option.map_eq_some_iff.mp hj
    obtain⟨r,hr',er⟩:=Paired.at hr2 hra
    have s04:=s2.trans s4
    have bsl:bs.length≤64:=by
     rw [Paired.length r4,dJ,List.length_take]
     exact Nat.le_trans (Nat.mul_le_mul (Nat.le_trans (Nat.min_le_right _ _) rsl) m4) (by decide)
    refine⟨_,rfl,.inl ⟨rfl,_,SqL.of e4⟩,?_⟩
    refine⟨_,rfl,_,rfl,_,rfl,b,z,ks,ts,fs,ns,k,rfl,hb.same s04,s04 _ _ hz,ok,hkk,N,by rw [hN],by omega,by omega,?_⟩
    intro cl C ex s0 Hc
    rw [Int.toNat_natCast]
    refine df N (fun i' ys H5=>∃ cs:List Addr,ys=cs.map V.ref∧av H3 H5∧dC H5 cs (((upN N).take i').map fun u=>r++[u])) (fun i' x=>x=.int (0+(i':Int))) ⟨[],rfl,av.refl _,.nil⟩ (Nat.le_trans m4 (by decide)) (fun i' ys H5 hi' _ _=>ow hi') (fun _ _ _ _=>iU) ?_ ?_
    ·rintro i' x ys H5 hi' rfl hy ⟨cs,rfl,s5,r5⟩
     refine⟨_,rfl,_,rfl,by show 1≤sizeLine; decide,fun p hp=>?_⟩
     have s6:=af hp (.tup [V.int (0+(i':Int))])
     refine oC (s6 _ _ (s5 _ _ (s4 _ _ er))) ac (Nat.le_trans (show _≤100 from ?_) (by decide)) fun p2 H6 hp2 s7=>⟨cs++[p2],by simp,s5.trans (s6.trans s7),?_⟩
     ·rw [List.length_map]
      have:=i3 (by rw [hrs]; exact List.mem_of_getElem? hr':r∈cP ((ps.take i).map (many ks ns)))
      rw [this,List.length_map,List.length_take]
      show min i ps.length+1≤100
      omega
     ·rw [qU hi',List.map_append]
      refine Paired.app (dC.tups (av.tups (s6.trans s7)) r5) (.cons ?_ .nil)
      rw [hp2,List.map_append]
      simp
    ·rintro ys H5 hy ⟨cs,rfl,s5,r5⟩ D2 hD2
     have s6:=af hD2 (.lst (cs.map V.ref))
     rw [List.take_of_length_le (by rw [cJ]; exact Nat.le_refl _)] at r5
     have e6:=s6 _ _ (s5 _ _ e4)
     have r6:=r5.tups (av.tups s6)
     have r6':=(r4.tups (av.tups s5)).tups (av.tups s6)
     have d6:(upd H5 D2 (.lst (cs.map V.ref))) D2=some (.lst (cs.map V.ref)):=ac
     have s46:=s4.trans (s5.trans s6)
     generalize (upd H5 D2 (.lst (cs.map V.ref)))=H6 at s6 e6 r6 r6' d6 s46
     have csl:cs.length≤4:=by
      have:=Paired.length r6
      rw [List.length_map,cJ] at this
      omega
     refine⟨D,D2,_,_,rfl,rfl,e6,d6,Nat.le_trans (show (bs.map V.ref).length+(cs.map V.ref).length≤100 by rw [List.length_map,List.length_map]; omega) (by decide),_,bs++cs,rfl,fun c o e=>by rw [ag (al e hD)]; exact s46 c o e,by rw [ac,List.map_append],?_⟩
     rw [qA hr']
     exact Paired.app (r6'.tups (gp e6 _)) (r6.tups (gp e6 _))
   ·rintro σ H3 ⟨v6,bs,rfl,s4,e4,r4⟩
    refine⟨_,rfl,D,bs,_,_,_,rfl,s2.trans s4,s2.free hD,e4,?_⟩
    rw [List.length_map,asl,List.take_length] at r4
    rw [enx]
    exact r4
  ·rintro σ H2 ⟨l,as,v4,v5,v6,rfl,s2,hl,el,hr2⟩
   refine⟨_,rfl,q l as H2 hl el ?_ s2⟩
   rw [List.length_map,List.take_length] at hr2
   exact hr2
end
theorem zld:LD "_law_function":=by decide +kernel
theorem zle:LS "_law_function":=by decide +kernel
theorem zlf:LD "_law_made":=by decide +kernel
theorem zlg:LS "_law_made":=by decide +kernel
theorem zlh:LD "_law_rows":=by decide +kernel
theorem zli:LD "_law_sign":=by decide +kernel
theorem zlj:LS "_law_sign":=by decide +kernel
theorem zlk:LD "_law_tie":=by decide +kernel
theorem zll:LS "_law_tie":=by decide +kernel
theorem zlm:LD "range":=by decide +kernel
theorem zln:LM "range":=by decide +kernel
def dOf:br ⊕ bt→PyData
 | .inl t=>pU t
 | .inr t=>qE t
def sOf:br ⊕ bt→Str×List Str
 | .inl t=>(t.nm,t.ps)
 | .inr t=>(t.nm,t.ps)
def eU (ts:List br) (fs:List bt):List (br ⊕ bt):=ts.map .inl++fs.map .inr
theorem xO (ts:List br) (fs:List bt):ts.map pU++fs.map qE=(eU ts fs).map dOf:=by
 unfold eU
 rw [List.map_append,List.map_map,List.map_map]; rfl
def cS (ks:List Str) (ns:List Nat) (g:br ⊕ bt):List CK:=(ej ks ns (sOf g).2).map fun r=>((sOf g).1,r)
theorem jq {α β γ:Type} (f:α→β) (g:β→List γ):∀ l:List α,(l.map f).flatMap g=l.flatMap fun x=>g (f x)
 | []=>rfl
 | x::r=>by rw [List.map_cons,List.flatMap_cons,List.flatMap_cons,jq f g r]
theorem mR (ks:List Str) (ns:List Nat) (ts:List br) (fs:List bt):(eU ts fs).flatMap (cS ks ns)=fQ ks ns ts fs:=by
 unfold eU fQ
 rw [List.flatMap_append,jq,jq]; rfl
theorem uB (ts:List br) (fs:List bt):(eU ts fs).length=ts.length+fs.length:=by unfold eU; simp
theorem nr {ks:List Str} {ts:List br} {fs:List bt} (ok:dE ks ts fs) {g:br ⊕ bt} (h:g∈eU ts fs):(sOf g).2.length≤2∧∀ k∈(sOf g).2,k∈ks:=by
 rcases List.mem_append.mp h with h | h
 ·obtain⟨t,ht,rfl⟩:=List.mem_map.mp h
  exact(ok.tn t ht).2
 ·obtain⟨t,ht,rfl⟩:=List.mem_map.mp h
  exact⟨(ok.fn t ht).2.1,(ok.fn t ht).2.2.1⟩
theorem o9 {H:Hp} {xs:List V} {gs:List (br ⊕ bt)} (h:RdA Any H xs (gs.map dOf)) {i:Nat} {y:V} (hi:xs[i]? = some y):∃ g py pp rest,gs[i]? = some g∧y=.ref py∧H py=some (.tup (.str (sOf g).1::.ref pp::rest))∧H pp=some (.lst ((sOf g).2.map V.str)):=by
 obtain⟨d,hd,rd⟩:=h.getV hi
 rw [List.getElem?_map] at hd
 obtain⟨g,hg,rfl⟩:=Option.map_eq_some_iff.mp hd
 cases g with
 | inl t=>
  obtain⟨py,px,rfl,_,hpy,hpx⟩:=RdV.tuple_inv rd
  obtain⟨a1,a2,rfl,r1,r2⟩:=hpx.two
  obtain rfl:=r1.str_inv
  obtain⟨pp,ppx,rfl,_,hpp,hps⟩:=r2.list_inv
  obtain rfl:=hps.strs_inv
  exact⟨_,py,pp,[],hg,rfl,hpy,hpp⟩
 | inr t=>
  obtain⟨py,px,rfl,_,hpy,hpx⟩:=RdV.tuple_inv rd
  obtain⟨a1,a2,a3,rfl,r1,r2,r3⟩:=hpx.three
  obtain rfl:=r1.str_inv
  obtain⟨pp,ppx,rfl,_,hpp,hps⟩:=r2.list_inv
  obtain rfl:=hps.strs_inv
  exact⟨_,py,pp,[a3],hg,rfl,hpy,hpp⟩
theorem pE {α β:Type} {f:α→β}:∀ {l:List α},(l.map f).Nodup→∀ {x y:α},x∈l→y∈l→f x=f y→x=y
 | [],_,_,_,h,_,_=>nomatch h
 | a::r,n,x,y,hx,hy,e=>by
  rw [List.map_cons,List.nodup_cons] at n
  rcases List.mem_cons.mp hx with ex | ux <;> rcases List.mem_cons.mp hy with ey | uy
  ·rw [ex,ey]
  ·rw [ex] at e
   exact absurd (List.mem_map.mpr ⟨y,uy,e.symm⟩) n.1
  ·rw [ey] at e
   exact absurd (List.mem_map.mpr ⟨x,ux,e⟩) n.1
  ·exact pE n.2 ux uy e
section
variable {P:Program} {w:World} {K:PySem.W.Frag} {mg:Str→Option Value} {base:Heap}
abbrev bV:Stmt:=top 49
theorem zlo:aB ["_law_book_here","_law_size_here","_law_made","_law_sign"] ["_law_book_here","_law_size_here"] (ah bV):=⟨rfl,rfl,rfl,by decide +kernel,rfl,by decide +kernel,by decide +kernel⟩
theorem zlp:LN .local bV "_law_book_here":=by decide +kernel
theorem zlq:LN .local bV "_law_made":=by decide +kernel
theorem zlr:LN .globalImplicit bV "_law_rows":=by decide +kernel
theorem zls:LN .cell bV "_law_sign":=by decide +kernel
theorem zlt:LN .local bV "_law_size_here":=by decide +kernel
abbrev xm:Scope:={kind:=PySem.ScopeKind.function,names:=[ (PySem.Str.ofString ".0",PySem.NameKind.local),(PySem.Str.ofString "_law_row",PySem.NameKind.local),(PySem.Str.ofString "_law_sign",PySem.NameKind.free)],isGenerator:=false,isCoroutine:=false,more:=[]:PySem.Scope}
theorem zlu:cw 1 ["_law_row","_law_book_here","_law_size_here","_law_made","_law_sign"] ["_law_book_here","_law_size_here","_law_made","_law_sign"] (ah bV) xm:=⟨rfl,by decide +kernel,by decide +kernel,by decide +kernel,by decide +kernel,rfl,by decide +kernel⟩
theorem zlv:LC .local xm "_law_row":=by decide +kernel
theorem zlw:LC .free xm "_law_sign":=by decide +kernel
def lH:Sp:=fun vs H Q _=>∃ (b z:Addr) (ks:List Str) (ts:List br) (fs:List bt) (ns:List Nat),vs=[.ref b,.ref z]∧eS H b ks ts fs∧dE ks ts fs∧H z=some (.lst (ns.map iV))∧ci ks ns∧
 ∀ l as H',H l=none→H' l=some (.lst (as.map V.ref))→eR H' as (fQ ks ns ts fs)→av H H'→Q (.ref l) H'
theorem qj (F:aL K mg "_law_cells" bV ["_law_book_here","_law_size_here"]) (Z:Bl mg) (D_law_rows:Def P w K mg base "_law_rows" 2 ["_law_book_here","_law_size_here","_law_places"] oV):Def P w K mg base "_law_cells" 3 ["_law_book_here","_law_size_here"] lH:=by
 have SC:=zlo
 refine F.mk' (k:=2) zlo (fun vs H Q E h=>?_) (fun f cdv A outer s H vs Q E hr h=>?_)
 ·obtain⟨b,z,ks,ts,fs,ns,rfl,_⟩:=h
  rfl
 ·obtain⟨b,z,ks,ts,fs,ns,rfl,hb,ok,hz,sz,q⟩:=h
  obtain⟨kA,tA,fA,tv,fv,b1,k1,t1,t2,f1,f2⟩:=hb.open
  refine'⟨_,?derivation,?_⟩
  case derivation=>refine' ak ?Aa ?Ba;(case Aa=>refine' bc (i:=2) (x:=Str.ofString "_law_made") ?Ca ?Da ?Ea ?Fa ?Ga ?Ha;(case Ca=>exact SC.nd);(case Da=>exact rfl);(case Ea=>exact(Or.inl zlq));(case Fa=>refine' aU ae);(case Ga=>rfl);case Ha=>exact .inl rfl);case Ba=>refine' ak ?Ia ?Ja;(case Ia=>refine' cg PassesOwn.never rfl ?Ka ?La ?Ma ?Na;(case Ka=>refine' bn ?Oa;case Oa=>refine' bW fo ?Pa ?Qa;(case Pa=>refine' cb cB (pq 0 (ap zlp) zkh zki) ?Ra ?Sa;(case Ra=>exact aq);case Sa=>intro _ _;exact rfl);case Qa=>refine' cb cB (pq 0 (ap zlp) zkh zki) ?Ta ?Ua;(case Ta=>exact aq);case Ua=>intro _ _;exact rfl);(case La=>refine' au (i:=3) (x:=Str.ofString "_law_sign") SC.nd rfl (Or.inr zls) (.inl rfl));(case Ma=>refine' am ?Va;case Va=>refine' cZ ?Wa rfl;case Wa=>refine' jb PySem.F.plainAttrs_list PySem.F.slot_list_extend PySem.F.type_list_extend hJ (pq 2 (ap zlq) zlf zlg) ?Xa rfl rfl rfl rfl rfl;case Xa=>refine' aa ?Ya ae ?Za;(case Ya=>refine' dF gF rfl zlu.at ?Ab ?Bb ?Cb ?Db;(case Ab=>refine' bn ?Eb;case Eb=>refine' aJ (hdb:=zlh) D_law_rows (hr.mono (by decide)) zlr ?Fb rfl rfl;case Fb=>refine' aa (pq 0 (ap zlp) zkh zki) ?Gb ?Hb;(case Gb=>refine' aa (pq 1 (ap zlt) zks zkt) ?Ib ?Jb;(case Ib=>refine' aa ?Kb ae ?Lb;(case Kb=>refine' cb cB (pq 3 (d4 zls) zli zlj) ?Mb ?Nb;(case Mb=>exact aq);case Nb=>intro _ _;exact rfl);case Lb=>rfl);case Jb=>rfl);case Hb=>rfl);(case Bb=>intro _ _ _ _ _;refine' au (i:=0) zlu.nd rfl (eL zlv) (.inr (lookup_relabel_local zlv)));(case Cb=>intro _ _ _ _ _;refine' cj ?Ob;case Ob=>refine' aa ?Pb ?Qb ?Rb;(case Pb=>refine' cb cB (pq 4 (eZ zlw) zli zlj) ?Sb ?Tb;(case Sb=>exact aq);case Tb=>intro _ _;exact rfl);(case Qb=>refine' aa (pq 0 (eW zlv) zko zkp) ae ?Ub;case Ub=>rfl);case Rb=>rfl);case Db=>intro _; rfl);case Za=>rfl);case Na=>intro _; rfl);case Ja=>refine' am ?Vb;case Vb=>refine' aO (pq 2 (ap zlq) zlf zlg)
  have sl:=ok.sl
  have tvl:tv.length=ts.length:=by rw [t2.length,List.length_map]
  have fvl:fv.length=fs.length:=by rw [f2.length,List.length_map]
  refine⟨by show 0≤sizeLine; decide,fun D hD=>?_⟩
  have s1:=af hD (.lst [])
  have d1:(upd H D (.lst [])) D=some (.lst []):=ac
  generalize (upd H D (.lst []))=H1 at s1 d1
  refine⟨_,rfl,b,_,_,_,rfl,rfl,SqT.of (s1 _ _ b1),rfl,_,rfl,b,_,_,_,rfl,rfl,SqT.of (s1 _ _ b1),rfl,tA,fA,tv,fv,rfl,rfl,s1 _ _ t1,s1 _ _ f1,Nat.le_trans (show tv.length+fv.length≤100 by omega) (by decide),fun L hL=>?_⟩
  have s2:=s1.trans (af hL (.lst (tv++fv)))
  have l2:(upd H1 L (.lst (tv++fv))) L=some (.lst (tv++fv)):=ac
  have d2:(upd H1 L (.lst (tv++fv))) D=some (.lst []):=af hL _ _ _ d1
  have nLD:L≠D:=by rintro rfl; rw [d1] at hL; cases hL
  generalize (upd H1 L (.lst (tv++fv)))=G at s2 l2 d2
  have nD:∀ {c:Addr} {o:HO},H c=some o→c≠D:=fun e=>al e hD
  have sg:RdA Any H (tv++fv) ((eU ts fs).map dOf):=by rw [← xO]; exact t2.append f2
  have sgl:(eU ts fs).length≤8:=by rw [uB]; exact sl
  have cle:∀ g∈eU ts fs,(cS ks ns g).length≤16:=fun g hg=>by unfold cS; rw [List.length_map]; exact dY sz (nr ok hg).2 (nr ok hg).1
  have allE:(tv++fv).length=(eU ts fs).length:=by rw [sg.length,List.length_map]
  refine⟨L,rfl,⟨_,SqL.of l2⟩,bM (K:=K) (a:=L) (xs:=tv++fv) (fun i σ H2=>∃ (v3:Option V) (as:List Addr),σ=[some (.ref b),some (.ref z),some (.ref D),v3]∧ay D G H2∧H2 D=some (.lst (as.map V.ref))∧eR H2 as (((eU ts fs).take i).flatMap (cS ks ns)))
   ⟨_,[],rfl,ay.refl _ _,d2,.nil⟩ (fun i σ H2 _ ⟨_,_,_,y,_⟩=>SqL.of (y _ _ nLD l2)) ?_ ?_⟩
  ·rintro i y σ H2 hi ⟨v3,as,rfl,s3,e3,c3⟩
   obtain⟨g,py,pp,rest,hg,rfl,hpy,hpp⟩:=o9 sg hi
   obtain⟨g2,gk⟩:=nr ok (List.mem_of_getElem? hg)
   have S3:av H H2:=fun c o e=>s3 c o (nD e) (s2 c o e)
   have asl:as.length≤128:=by
    rw [Paired.length c3]
    refine Nat.le_trans (jk _ fun x hx=>cle x (List.mem_of_mem_take hx)) ?_
    rw [List.length_take]
    exact Nat.le_trans (Nat.mul_le_mul_right 16 (Nat.le_trans (Nat.min_le_right _ _) sgl)) (by decide)
   refine⟨_,rfl,.inl ⟨rfl,_,SqL.of e3⟩,?_⟩
   refine⟨_,rfl,_,rfl,_,rfl,py,_,_,_,rfl,rfl,SqT.of (S3 _ _ hpy),eP (x:=V.ref pp) (by decide) rfl,b,z,pp,ks,ts,fs,ns,_,rfl,hb.same S3,S3 _ _ hz,sz,S3 _ _ hpp,gk,g2,fun l2 as2 H3 hl2 e4 r4 s4=>?_⟩
   have rl:=dY sz gk g2
   have as2l:=Paired.length r4
   refine⟨l2,rfl,⟨_,SqL.of e4⟩,?_⟩
   intro cl C ex s0 Hc
   refine df as2.length (fun i' ys H5=>∃ cs:List Addr,ys=cs.map V.ref∧av H3 H5∧eR H5 cs ((cS ks ns g).take i')) (fun i' x=>(as2.map V.ref)[i']? = some x) ⟨[],rfl,av.refl _,.nil⟩ (Nat.le_trans (show as2.length≤16 by omega) (by decide))
    (fun i' ys H5 hi' _ ⟨_,_,y,_⟩=>dU (SqL.of (y _ _ e4)) (by rw [List.length_map]; exact hi')) (fun ys H5 _ ⟨_,_,y,_⟩=>by have:=cQ (K:=K) (SqL.of (K:=K) (y _ _ e4)); rw [List.length_map] at this; exact this) ?_ ?_
   ·rintro i' x ys H5 hi' hx hy ⟨cs,rfl,s5,r5⟩
    rw [List.getElem?_map] at hx
    obtain⟨ra,hra,rfl⟩:=Option.map_eq_some_iff.mp hx
    obtain⟨r,hr',er⟩:=Paired.at r4 hra
    have S5:=S3.trans (s4.trans s5)
    refine⟨_,rfl,py,_,_,_,rfl,rfl,SqT.of (S5 _ _ hpy),eP (x:=V.str (sOf g).1) (by decide) rfl,_,rfl,by show 2≤sizeLine; decide,fun p hp=>?_⟩
    have s6:=af hp (.tup [.str (sOf g).1,.ref ra])
    refine⟨cs++[p],by simp,s5.trans s6,?_⟩
    have hy:(cS ks ns g)[i']? = some ((sOf g).1,r):=by unfold cS; rw [List.getElem?_map,hr']; rfl
    rw [List.take_succ,hy]
    exact Paired.app (eR.tups (av.tups s6) r5) (.cons ⟨ra,ac,s6 _ _ (s5 _ _ er)⟩ .nil)
   ·rintro ys H5 hy ⟨cs,rfl,s5,r5⟩ D2 hD2
    have s6:=af hD2 (.lst (cs.map V.ref))
    have e:as2.length=(cS ks ns g).length:=by unfold cS; rw [List.length_map]; exact as2l
    rw [e,List.take_length] at r5
    have e6:=s6 _ _ (s5 _ _ (s4 _ _ e3))
    have r6:=r5.tups (av.tups s6)
    have r6':=c3.tups (av.tups (s4.trans (s5.trans s6)))
    have d6:(upd H5 D2 (.lst (cs.map V.ref))) D2=some (.lst (cs.map V.ref)):=ac
    have s36:=s3.same (s4.trans (s5.trans s6))
    generalize (upd H5 D2 (.lst (cs.map V.ref)))=H6 at s6 e6 r6 r6' d6 s36
    have csl:cs.length≤16:=by rw [Paired.length r6]; exact cle g (List.mem_of_getElem? hg)
    refine⟨D,D2,_,_,rfl,rfl,e6,d6,Nat.le_trans (show (as.map V.ref).length+(cs.map V.ref).length≤200 by rw [List.length_map,List.length_map]; omega) (by decide),_,as++cs,rfl,s36.trans (ay.upd _ _ _),by rw [ac,List.map_append],?_⟩
    rw [ic hg]
    exact Paired.app (r6'.tups (gp e6 _)) (r6.tups (gp e6 _))
  ·rintro σ H2 ⟨v3,as,rfl,s3,e3,c3⟩
   rw [allE,List.take_length,mR] at c3
   exact⟨_,rfl,q D as H2 hD e3 c3 fun c o e=>s3 c o (nD e) (s2 c o e)⟩
abbrev bj:Stmt:=top 50
theorem zlx:aB ["_law_book_here","_law_size_here","_law_name","_law_tie","_law_function"] ["_law_book_here","_law_size_here","_law_name"] (ah bj):=⟨rfl,rfl,rfl,by decide +kernel,rfl,by decide +kernel,by decide +kernel⟩
theorem zly:LN .local bj "_law_book_here":=by decide +kernel
theorem zlz:LN .local bj "_law_function":=by decide +kernel
theorem zl0:LN .globalImplicit bj "_law_many":=by decide +kernel
theorem zl1:LN .local bj "_law_name":=by decide +kernel
theorem zl2:LN .local bj "_law_size_here":=by decide +kernel
theorem zl3:LN .local bj "_law_tie":=by decide +kernel
theorem zl4:LN .globalImplicit bj "list":=by decide +kernel
theorem zl5:LN .globalImplicit bj "range":=by decide +kernel
def ly (ks:List Str) (ns:List Nat) (ts:List br) (fs:List bt) (nm:Str) (n:Nat):Prop:=(∃ t∈ts,t.nm=nm∧n=2)∨∃ t∈fs,t.nm=nm∧n=many ks ns t.kd
def jR:Sp:=fun vs H Q _=>∃ (b z:Addr) (ks:List Str) (ts:List br) (fs:List bt) (ns:List Nat) (nm:Str) (n:Nat),vs=[.ref b,.ref z,.str nm]∧eS H b ks ts fs∧dE ks ts fs∧H z=some (.lst (ns.map iV))∧ci ks ns∧ly ks ns ts fs nm n∧
 ∀ l H',H l=none→H' l=some (.lst ((upN n).map V.int))→av H H'→Q (.ref l) H'
theorem nW (F:aL K mg "_law_values" bj ["_law_book_here","_law_size_here","_law_name"]) (Z:Bl mg) (D_law_many:Def P w K mg base "_law_many" 1 ["_law_book_here","_law_size_here","_law_kind"] nh):Def P w K mg base "_law_values" 2 ["_law_book_here","_law_size_here","_law_name"] jR:=by
 have SC:=zlx
 refine F.mk' (k:=1) zlx (fun vs H Q E h=>?_) (fun f cdv A outer s H vs Q E hr h=>?_)
 ·obtain⟨b,z,ks,ts,fs,ns,nm,n,rfl,_⟩:=h
  rfl
 ·obtain⟨b,z,ks,ts,fs,ns,nm,n,rfl,hb,ok,hz,sz,hn,q⟩:=h
  obtain⟨kA,tA,fA,tv,fv,b1,k1,t1,t2,f1,f2⟩:=hb.open
  refine'⟨_,?derivation,?_⟩
  case derivation=>refine' ak ?Aa ?Ba;(case Aa=>refine' cg PassesOwn.never rfl ?Ca ?Da ?Ea ?Fa;(case Ca=>refine' bn ?Ga;case Ga=>refine' cb cB (pq 0 (ap zly) zkh zki) ?Ha ?Ia;(case Ha=>exact aq);case Ia=>intro _ _;exact rfl);(case Da=>refine' au (i:=3) (x:=Str.ofString "_law_tie") SC.nd rfl (Or.inl zl3) (.inl rfl));(case Ea=>refine' am ?Ja;case Ja=>refine' cy ?Ka ?La bq;(case Ka=>refine' bO pv ?Ma (pq 2 (ap zl1) zcq zcr) (ck _);case Ma=>refine' cb cB (pq 3 (ap zl3) zlk zll) ?Na ?Oa;(case Na=>exact aq);case Oa=>intro _ _;exact rfl);case La=>refine' am ?Pa;case Pa=>refine' aO ?Qa;case Qa=>refine' aU ?Ra;case Ra=>refine' aa ?Sa ?Ta ?Ua;(case Sa=>exact aq);(case Ta=>refine' aa ?Va ae ?Wa;(case Va=>exact aq);case Wa=>rfl);case Ua=>rfl);case Fa=>intro _; rfl);case Ba=>refine' ak ?Xa ?Ya;(case Xa=>refine' cg PassesOwn.never rfl ?Za ?Ab ?Bb ?Cb;(case Za=>refine' bn ?Db;case Db=>refine' cb cB (pq 0 (ap zly) zkh zki) ?Eb ?Fb;(case Eb=>exact aq);case Fb=>intro _ _;exact rfl);(case Ab=>refine' au (i:=4) (x:=Str.ofString "_law_function") SC.nd rfl (Or.inl zlz) (.inl rfl));(case Bb=>refine' am ?Gb;case Gb=>refine' cy ?Hb ?Ib bq;(case Hb=>refine' bO pv ?Jb (pq 2 (ap zl1) zcq zcr) (ck _);case Jb=>refine' cb cB (pq 4 (ap zlz) zld zle) ?Kb ?Lb;(case Kb=>exact aq);case Lb=>intro _ _;exact rfl);case Ib=>refine' am ?Mb;case Mb=>refine' aO ?Nb;case Nb=>refine' bR (hn:=zbu) (hdb:=zbt) ?Ob zl4 Z.n_list ei ?Pb rfl rfl;(case Ob=>exact(oE rfl));case Pb=>refine' aa ?Qb ae ?Rb;(case Qb=>refine' bR (hn:=zln) (hdb:=zlm) mS zl5 Z.n_range t5 ?Sb rfl rfl;case Sb=>refine' aa ?Tb ae ?Ub;(case Tb=>refine' aJ (hdb:=zkn) D_law_many (hr.mono (by decide)) zl0 ?Vb rfl rfl;case Vb=>refine' aa (pq 0 (ap zly) zkh zki) ?Wb ?Xb;(case Wb=>refine' aa (pq 1 (ap zl2) zks zkt) ?Yb ?Zb;(case Yb=>refine' aa ?Ac ae ?Bc;(case Ac=>refine' cb cB (pq 4 (ap zlz) zld zle) ?Cc ?Dc;(case Cc=>exact aq);case Dc=>intro _ _;exact rfl);case Bc=>rfl);case Zb=>rfl);case Xb=>rfl);case Ub=>rfl);case Rb=>rfl);case Cb=>intro _; rfl);case Ya=>refine' am ?Ec;case Ec=>refine' aO ?Fc;case Fc=>refine' aU ae
  have nd:=List.nodup_append.mp ok.sn
  have tvl:tv.length=ts.length:=by rw [t2.length,List.length_map]
  have fvl:fv.length=fs.length:=by rw [f2.length,List.length_map]
  have sgT:RdA Any H tv ((ts.map Sum.inl).map dOf):=by rw [List.map_map]; exact t2
  refine⟨_,rfl,b,_,_,_,rfl,rfl,SqT.of b1,rfl,tA,rfl,⟨_,SqL.of t1⟩,bM (K:=K) (a:=tA) (xs:=tv) (fun i σ H2=>(∃ v3:Option V,σ=[some (.ref b),some (.ref z),some (.str nm),v3,none])∧H2=H∧∀ t∈ts.take i,t.nm≠nm)
   ⟨⟨_,rfl⟩,rfl,(fun _ z=>nomatch z)⟩ (fun i σ H2 _ ⟨_,y,_⟩=>by rw [y]; exact SqL.of t1) ?_ ?_⟩
  ·rintro i y σ H2 hi ⟨⟨v3,rfl⟩,rfl,h1⟩
   obtain⟨g,py,pp,rest,hg,rfl,hpy,hpp⟩:=o9 sgT hi
   rw [List.getElem?_map] at hg
   obtain⟨t,ht,rfl⟩:=Option.map_eq_some_iff.mp hg
   refine⟨_,rfl,py,_,_,_,rfl,rfl,SqT.of hpy,eP (x:=V.str t.nm) (by decide) rfl,_,rfl,rfl,?_⟩
   refine⟨_,rfl,?_⟩
   refine sV (fun e=>?_) (fun e=>?_)
   ·have e':t.nm=nm:=by have:=of_decide_eq_true e; exact V.str.inj this
    have n2:n=2:=by
     rcases hn with ⟨_,_,_,h⟩ | ⟨u,hu,hu2,_⟩
     ·exact h
     ·exact absurd (e'.trans hu2.symm) (nd.2.2 _ (List.mem_map.mpr ⟨t,List.mem_of_getElem? ht,rfl⟩) _ (List.mem_map.mpr ⟨u,hu,rfl⟩))
    subst n2
    exact⟨by show 2≤sizeLine; decide,fun l hl=>q l _ hl ac (af hl _)⟩
   ·refine⟨⟨_,rfl⟩,rfl,fun u hu=>?_⟩
    rw [List.take_succ,ht] at hu
    rcases List.mem_append.mp hu with hu | hu
    ·exact h1 u hu
    ·rw [Option.mem_toList.mp hu |> Option.some.inj |>.symm]
     intro z
     exact e (decide_eq_true (congrArg V.str z))
  ·rintro σ H2 ⟨⟨v3,rfl⟩,rfl,h1⟩
   rw [tvl,List.take_length] at h1
   refine⟨_,rfl,b,_,_,_,rfl,rfl,SqT.of b1,rfl,fA,rfl,⟨_,SqL.of f1⟩,bM (K:=K) (a:=fA) (xs:=fv) (fun i σ H3=>(∃ v4:Option V,σ=[some (.ref b),some (.ref z),some (.str nm),v3,v4])∧H3=H2∧∀ t∈fs.take i,t.nm≠nm)
    ⟨⟨_,rfl⟩,rfl,(fun _ z=>nomatch z)⟩ (fun i σ H3 _ ⟨_,y,_⟩=>by rw [y]; exact SqL.of f1) ?_ ?_⟩
   ·rintro i y σ H3 hi ⟨⟨v4,rfl⟩,rfl,h2⟩
    obtain⟨d,hd,rd⟩:=f2.getV hi
    rw [List.getElem?_map] at hd
    obtain⟨t,ht,rfl⟩:=Option.map_eq_some_iff.mp hd
    obtain⟨py,px,rfl,_,hpy,hpx⟩:=RdV.tuple_inv rd
    obtain⟨a1,a2,a3,rfl,r1,r2,r3⟩:=hpx.three
    obtain rfl:=r1.str_inv
    obtain rfl:=r3.str_inv
    refine⟨_,rfl,py,_,_,_,rfl,rfl,SqT.of hpy,rfl,_,rfl,rfl,?_⟩
    refine⟨_,rfl,?_⟩
    refine sV (fun e=>?_) (fun e=>?_)
    ·have e':t.nm=nm:=by have:=of_decide_eq_true e; exact V.str.inj this
     have tm:=List.mem_of_getElem? ht
     have n2:n=many ks ns t.kd:=by
      rcases hn with ⟨u,hu,hu2,_⟩ | ⟨u,hu,hu2,h⟩
      ·exact absurd hu2 (h1 u hu)
      ·rw [h,pE nd.2.1 hu tm (hu2.trans e'.symm)]
     have kk:=(ok.fn t tm).2.2.2
     have m4:=(sz.many kk).2
     subst n2
     refine⟨_,rfl,_,rfl,_,rfl,py,_,_,_,rfl,rfl,SqT.of hpy,rfl,b,z,ks,ts,fs,ns,t.kd,rfl,hb,hz,sz,kk,_,rfl,fun rg hrg=>?_⟩
     have s4:=af hrg (.rng 0 (many ks ns t.kd))
     exact⟨rg,many ks ns t.kd,rfl,ac,Nat.le_trans m4 (by decide),fun l hl=>q l _ (s4.free hl) ac (s4.trans (af hl _))⟩
    ·refine⟨⟨_,rfl⟩,rfl,fun u hu=>?_⟩
     rw [List.take_succ,ht] at hu
     rcases List.mem_append.mp hu with hu | hu
     ·exact h2 u hu
     ·rw [Option.mem_toList.mp hu |> Option.some.inj |>.symm]
      intro z
      exact e (decide_eq_true (congrArg V.str z))
   ·rintro σ H3 ⟨⟨v4,rfl⟩,rfl,h2⟩
    rw [fvl,List.take_length] at h2
    rcases hn with ⟨u,hu,hu2,_⟩ | ⟨u,hu,hu2,_⟩
    ·exact absurd hu2 (h1 u hu)
    ·exact absurd hu2 (h2 u hu)
end
theorem zl6:LD "_law_cells":=by decide +kernel
theorem zl7:LD "_law_values":=by decide +kernel
theorem vn {ks:List Str} {ns:List Nat} {ts:List br} {fs:List bt} (ok:dE ks ts fs) (sz:ci ks ns) {p:CK×Nat} (h:p∈cu ks ns ts fs):p.2≤4∧ly ks ns ts fs p.1.1 p.2:=by
 rcases List.mem_append.mp h with h | h
 ·obtain⟨t,ht,h⟩:=List.mem_flatMap.mp h
  obtain⟨r,_,rfl⟩:=List.mem_map.mp h
  exact⟨by show 2≤4; decide,.inl ⟨t,ht,rfl,rfl⟩⟩
 ·obtain⟨t,ht,h⟩:=List.mem_flatMap.mp h
  obtain⟨r,_,rfl⟩:=List.mem_map.mp h
  exact⟨(sz.many (ok.fn t ht).2.2.2).2,.inr ⟨t,ht,rfl,rfl⟩⟩
section
variable {P:Program} {w:World} {K:PySem.W.Frag} {mg:Str→Option Value} {base:Heap}
abbrev aX:Stmt:=top 51
theorem zl8:aB ["_law_book_here","_law_size_here","_law_made","_law_name","_law_row"] ["_law_book_here","_law_size_here"] (ah aX):=⟨rfl,rfl,rfl,by decide +kernel,rfl,by decide +kernel,by decide +kernel⟩
theorem zl9:LN .local aX "_law_book_here":=by decide +kernel
theorem zma:LN .globalImplicit aX "_law_cells":=by decide +kernel
theorem zmb:LN .local aX "_law_made":=by decide +kernel
theorem zmc:LN .local aX "_law_name":=by decide +kernel
theorem zmd:LN .local aX "_law_row":=by decide +kernel
theorem zme:LN .local aX "_law_size_here":=by decide +kernel
theorem zmf:LN .globalImplicit aX "_law_values":=by decide +kernel
theorem zmg:LN .globalImplicit aX "len":=by decide +kernel
def oW:Sp:=fun vs H Q _=>∃ (b z:Addr) (ks:List Str) (ts:List br) (fs:List bt) (ns:List Nat),vs=[.ref b,.ref z]∧eS H b ks ts fs∧dE ks ts fs∧H z=some (.lst (ns.map iV))∧ci ks ns∧
 ∀ H',av H H'→Q (.int (eE (cu ks ns ts fs):Nat)) H'
theorem sk (F:aL K mg "_law_fillings" aX ["_law_book_here","_law_size_here"]) (Z:Bl mg) (D_law_cells:Def P w K mg base "_law_cells" 3 ["_law_book_here","_law_size_here"] lH) (D_law_values:Def P w K mg base "_law_values" 2 ["_law_book_here","_law_size_here","_law_name"] jR):Def P w K mg base "_law_fillings" 4 ["_law_book_here","_law_size_here"] oW:=by
 have SC:=zl8
 refine F.mk' (k:=3) zl8 (fun vs H Q E h=>?_) (fun f cdv A outer s H vs Q E hr h=>?_)
 ·obtain⟨b,z,ks,ts,fs,ns,rfl,_⟩:=h
  rfl
 ·obtain⟨b,z,ks,ts,fs,ns,rfl,hb,ok,hz,sz,q⟩:=h
  refine'⟨_,?derivation,?_⟩
  case derivation=>refine' ak ?Aa ?Ba;(case Aa=>refine' bc (i:=2) (x:=Str.ofString "_law_made") ?Ca ?Da ?Ea ?Fa ?Ga ?Ha;(case Ca=>exact SC.nd);(case Da=>exact rfl);(case Ea=>exact(Or.inl zmb));(case Fa=>exact aq);(case Ga=>rfl);case Ha=>exact .inl rfl);case Ba=>refine' ak ?Ia ?Ja;(case Ia=>refine' cg PassesOwn.never rfl ?Ka ?La ?Ma ?Na;(case Ka=>refine' bn ?Oa;case Oa=>refine' aJ (hdb:=zl6) D_law_cells (hr.mono (by decide)) zma ?Pa rfl rfl;case Pa=>refine' aa (pq 0 (ap zl9) zkh zki) ?Qa ?Ra;(case Qa=>refine' aa (pq 1 (ap zme) zks zkt) ae ?Sa;case Sa=>rfl);case Ra=>rfl);(case La=>refine' nH rfl ?Ta rfl rfl;case Ta=>refine' bE ?Ua ?Va ?Wa;(case Ua=>refine' au (i:=3) (x:=Str.ofString "_law_name") SC.nd rfl (Or.inl zmc) (.inl rfl));(case Va=>refine' bE ?Xa eK ?Ya;(case Xa=>refine' au (i:=4) (x:=Str.ofString "_law_row") SC.nd rfl (Or.inl zmd) (.inl rfl));case Ya=>rfl);case Wa=>rfl);(case Ma=>refine' am ?Za;case Za=>refine' bc (i:=2) (x:=Str.ofString "_law_made") ?Ab ?Bb ?Cb ?Db ?Eb ?Fb;(case Ab=>exact SC.nd);(case Bb=>exact rfl);(case Cb=>exact(Or.inl zmb));(case Db=>refine' bW nQ (pq 2 (ap zmb) zlf zlg) ?Gb;case Gb=>refine' aD (hn:=zbs) (hdb:=zbr) aV zmg Z.n_len cC ?Hb rfl rfl;case Hb=>refine' aa ?Ib ae ?Jb;(case Ib=>refine' aJ (hdb:=zl7) D_law_values (hr.mono (by decide)) zmf ?Kb rfl rfl;case Kb=>refine' aa (pq 0 (ap zl9) zkh zki) ?Lb ?Mb;(case Lb=>refine' aa (pq 1 (ap zme) zks zkt) ?Nb ?Ob;(case Nb=>refine' aa (pq 3 (ap zmc) zcq zcr) ae ?Pb;case Pb=>rfl);case Ob=>rfl);case Mb=>rfl);case Jb=>rfl);(case Eb=>rfl);case Fb=>exact .inl rfl);case Na=>intro _; rfl);case Ja=>refine' am ?Qb;case Qb=>refine' aO (pq 2 (ap zmb) zlf zlg)
  refine⟨_,rfl,_,rfl,b,z,ks,ts,fs,ns,rfl,hb,ok,hz,sz,fun l as H1 hl el c1 s1=>⟨l,rfl,⟨_,SqL.of el⟩,?_⟩⟩
  have lc:as.length=(cu ks ns ts fs).length:=by rw [Paired.length c1,← fH,List.length_map]
  refine bM (K:=K) (a:=l) (xs:=as.map V.ref) (fun i σ H2=>∃ v3 v4:Option V,σ=[some (.ref b),some (.ref z),some (.int (eE ((cu ks ns ts fs).take i):Nat)),v3,v4]∧av H1 H2)
   ⟨_,_,rfl,av.refl _⟩ (fun i σ H2 _ ⟨_,_,_,y⟩=>SqL.of (y _ _ el)) ?_ ?_
  ·rintro i y σ H2 hi ⟨v3,v4,rfl,s2⟩
   rw [List.getElem?_map] at hi
   obtain⟨qa,hq,rfl⟩:=Option.map_eq_some_iff.mp hi
   obtain⟨k,hk,ra,e1,e2⟩:=Paired.at c1 hq
   rw [← fH,List.getElem?_map] at hk
   obtain⟨p,hp,rfl⟩:=Option.map_eq_some_iff.mp hk
   obtain⟨p4,vo⟩:=vn ok sz (List.mem_of_getElem? hp)
   have s12:=s1.trans s2
   refine⟨qa,_,rfl,.inr (SqT.of (s2 _ _ e1)),rfl,_,_,rfl,_,_,rfl,rfl,?_⟩
   refine⟨_,rfl,_,rfl,_,rfl,_,rfl,b,z,ks,ts,fs,ns,p.1.1,p.2,rfl,hb.same s12,ok,s12 _ _ hz,sz,vo,fun l2 H3 hl2 e3 s3=>?_⟩
   have e9:((eE ((cu ks ns ts fs).take (i+1)):Nat):Int)=(eE ((cu ks ns ts fs).take i):Nat)*(p.2:Nat):=by
    rw [List.take_succ,hp,Option.toList_some,i8]; exact Int.natCast_mul _ _
   refine⟨l2,_,rfl,.inl (SqL.of e3),_,_,rfl,rfl,.inr ?_,some (.str p.1.1),some (.ref ra),?_,s2.trans s3⟩
   ·rw [List.length_map,cJ]
    exact⟨by omega,by omega⟩
   ·rw [e9,List.length_map,cJ]; rfl
  ·rintro σ H2 ⟨v3,v4,rfl,s2⟩
   refine⟨_,rfl,?_⟩
   rw [List.length_map,lc,List.take_length]
   exact q _ (s1.trans s2)
end
theorem zmh:LD "FewError":=by decide +kernel
theorem zmi:LD "NoNaming":=by decide +kernel
theorem zmj:LD "NoPart":=by decide +kernel
theorem zmk:LD "NoRow":=by decide +kernel
theorem zml:LD "NoSaying":=by decide +kernel
theorem zmm:LD "NoSigns":=by decide +kernel
theorem zmn:LD "NoText":=by decide +kernel
theorem zmo:LD "NoWorld":=by decide +kernel
theorem zmp:LD "TooMany":=by decide +kernel
theorem zmq:LD "ValueError":=by decide +kernel
theorem zmr:LM "ValueError":=by decide +kernel
theorem zms:LD "_law_e":=by decide +kernel
theorem zmt:LS "_law_e":=by decide +kernel
theorem zmu:LD "_law_flags":=by decide +kernel
theorem zmv:LD "_law_good":=by decide +kernel
theorem zmw:LS "_law_good":=by decide +kernel
theorem zmx:LD "_law_signs":=by decide +kernel
theorem zmy:LS "_law_signs":=by decide +kernel
theorem zmz:LD "_law_strange":=by decide +kernel
theorem zm0:LS "_law_strange":=by decide +kernel
theorem zm1:LD "_law_way":=by decide +kernel
theorem zm2:LS "_law_way":=by decide +kernel
theorem zm3:LD "fillings":=by decide +kernel
theorem zm4:LD "sizes_to":=by decide +kernel
theorem jJ:bootBuiltins "ValueError"=some (.type "ValueError"):=by decide +kernel
structure Xs (K:PySem.W.Frag) (C fe:Addr) (ds:List Addr):Prop where
 look:dH K C
 ve:PySem.W.kitOne K (.ref C) (.type "ValueError")=some true
 own:PySem.W.kitOne K (.ref C) (.ref C)=some true
 oth:PySem.W.kitAny K (.ref C) (ds.map Value.ref)=some false
 up:PySem.W.mroIn K C (.ref fe)=some true
def EcR (N:Addr) (H:Hp):XK:=fun cls _ H1=>cls=.ref N∧av H H1
section
variable {P:Program} {w:World} {K:PySem.W.Frag} {mg:Str→Option Value} {base:Heap}
abbrev aQ:Stmt:=top 53
theorem zm5:aB ["_law_e","_law_strange"] ["_law_e"] (ah aQ):=⟨rfl,rfl,rfl,by decide +kernel,rfl,by decide +kernel,by decide +kernel⟩
theorem zm6:LN .globalImplicit aQ "NoNaming":=by decide +kernel
theorem zm7:LN .globalImplicit aQ "NoPart":=by decide +kernel
theorem zm8:LN .globalImplicit aQ "NoRow":=by decide +kernel
theorem zm9:LN .globalImplicit aQ "NoSaying":=by decide +kernel
theorem zna:LN .globalImplicit aQ "NoSigns":=by decide +kernel
theorem znb:LN .globalImplicit aQ "NoSize":=by decide +kernel
theorem znc:LN .globalImplicit aQ "NoText":=by decide +kernel
theorem znd:LN .globalImplicit aQ "NoWorld":=by decide +kernel
theorem zne:LN .globalImplicit aQ "TooMany":=by decide +kernel
theorem znf:LN .globalImplicit aQ "ValueError":=by decide +kernel
theorem zng:LN .local aQ "_law_e":=by decide +kernel
theorem znh:LN .local aQ "_law_strange":=by decide +kernel
theorem zni:LN .globalImplicit aQ "isinstance":=by decide +kernel
def oY (C:Addr):Sp:=fun vs H Q _=>∃ a dx,vs=[.ref a]∧H a=some (oM C a dx)∧∀ H',av H H'→Q (.bl true) H'
theorem sr {C fe x1 x2 x3 x4 x5 x6 x7 x8:Addr} (F:aL K mg "_law_flags" aQ ["_law_e"]) (Z:Bl mg) (n_ValueError:mg "ValueError"=none) (T:Xs K C fe [x1,x2,x3,x4,x5,x6,x7,x8])
  (g_NoSize:mg "NoSize"=some (.ref C)) (g_NoNaming:mg "NoNaming"=some (.ref x1)) (g_NoPart:mg "NoPart"=some (.ref x2)) (g_NoRow:mg "NoRow"=some (.ref x3)) (g_NoSaying:mg "NoSaying"=some (.ref x4)) (g_NoSigns:mg "NoSigns"=some (.ref x5)) (g_NoText:mg "NoText"=some (.ref x6)) (g_NoWorld:mg "NoWorld"=some (.ref x7)) (g_TooMany:mg "TooMany"=some (.ref x8)) :
  vE P w K mg base "_law_flags" 1 ["_law_e"] (oY C):=by
 have SC:=zm5
 have r_NoSize:aM (.ref C) (.ref C):=rfl
 have r_NoNaming:aM (.ref x1) (.ref x1):=rfl
 have r_NoPart:aM (.ref x2) (.ref x2):=rfl
 have r_NoRow:aM (.ref x3) (.ref x3):=rfl
 have r_NoSaying:aM (.ref x4) (.ref x4):=rfl
 have r_NoSigns:aM (.ref x5) (.ref x5):=rfl
 have r_NoText:aM (.ref x6) (.ref x6):=rfl
 have r_NoWorld:aM (.ref x7) (.ref x7):=rfl
 have r_TooMany:aM (.ref x8) (.ref x8):=rfl
 refine F.mkU (k:=0) zm5 (fun vs H Q E h=>?_) (fun f cdv A outer s H vs Q E hr h=>?_)
 ·obtain⟨a,dx,rfl,_⟩:=h
  rfl
 ·obtain⟨a,dx,rfl,ha,q⟩:=h
  refine'⟨_,?derivation,?_⟩
  case derivation=>refine' ak ?Aa ?Ba;(case Aa=>refine' bc (i:=1) (x:=Str.ofString "_law_strange") ?Ca ?Da ?Ea ?Fa ?Ga ?Ha;(case Ca=>exact SC.nd);(case Da=>exact rfl);(case Ea=>exact(Or.inl znh));(case Fa=>refine' aD (hn:=zd0) (hdb:=zdz) oF zni Z.n_isinstance bA ?Ia rfl rfl;case Ia=>refine' aa (pq 0 (ap zng) zms zmt) ?Ja ?Ka;(case Ja=>refine' aa ?La ae ?Ma;(case La=>refine' cj ?Na;case Na=>refine' aa ?Oa ?Pa ?Qa;(case Oa=>refine' bJ (hd:=zmi) zm6 g_NoNaming r_NoNaming);(case Pa=>refine' aa ?Ra ?Sa ?Ta;(case Ra=>refine' bJ (hd:=zmj) zm7 g_NoPart r_NoPart);(case Sa=>refine' aa ?Ua ?Va ?Wa;(case Ua=>refine' bJ (hd:=zmk) zm8 g_NoRow r_NoRow);(case Va=>refine' aa ?Xa ?Ya ?Za;(case Xa=>refine' bJ (hd:=zml) zm9 g_NoSaying r_NoSaying);(case Ya=>refine' aa ?Ab ?Bb ?Cb;(case Ab=>refine' bJ (hd:=zmm) zna g_NoSigns r_NoSigns);(case Bb=>refine' aa ?Db ?Eb ?Fb;(case Db=>refine' bJ (hd:=zmn) znc g_NoText r_NoText);(case Eb=>refine' aa ?Gb ?Hb ?Ib;(case Gb=>refine' bJ (hd:=zmo) znd g_NoWorld r_NoWorld);(case Hb=>refine' aa ?Jb ae ?Kb;(case Jb=>refine' bJ (hd:=zmp) zne g_TooMany r_TooMany);case Kb=>rfl);case Ib=>rfl);case Fb=>rfl);case Cb=>rfl);case Za=>rfl);case Wa=>rfl);case Ta=>rfl);case Qa=>rfl);case Ma=>rfl);case Ka=>rfl);(case Ga=>rfl);case Ha=>exact .inl rfl);case Ba=>refine' am ?Lb;case Lb=>refine' aO ?Mb;case Mb=>refine' jc ?Nb ?Ob;(case Nb=>refine' aD (hn:=zd0) (hdb:=zdz) j7 zni Z.n_isinstance bA ?Pb rfl rfl;case Pb=>refine' aa (pq 0 (ap zng) zms zmt) ?Qb ?Rb;(case Qb=>refine' aa ?Sb ae ?Tb;(case Sb=>refine' bJ (hd:=zhm) znb g_NoSize r_NoSize);case Tb=>rfl);case Rb=>rfl);case Ob=>refine' jc ?Ub ?Vb;(case Ub=>refine' aD (hn:=zd0) (hdb:=zdz) j7 zni Z.n_isinstance bA ?Wb rfl rfl;case Wb=>refine' aa (pq 0 (ap zng) zms zmt) ?Xb ?Yb;(case Xb=>refine' aa ?Zb ae ?Ac;(case Zb=>refine' dS (v:=V.ty "ValueError") (hn:=zmr) (hd:=zmq) znf n_ValueError jJ rfl);case Ac=>rfl);case Yb=>rfl);case Vb=>refine' nJ ?Bc;case Bc=>refine' rM (pq 1 (ap znh) zmz zm0)
  refine⟨_,rfl,by show 8≤sizeLine; decide,fun t ht=>?_⟩
  have st:=af ht (.tup [.ref x1,.ref x2,.ref x3,.ref x4,.ref x5,.ref x6,.ref x7,.ref x8])
  have h2:=st _ _ ha
  refine⟨a,C,t,dx,[x1,x2,x3,x4,x5,x6,x7,x8],false,rfl,ac,h2,T.look,T.oth,?_⟩
  refine⟨_,rfl,a,C,dx,_,_,true,rfl,rfl,h2,T.look,T.own,true,rfl,ifT rfl ?_⟩
  refine⟨_,rfl,a,C,dx,_,_,true,rfl,rfl,h2,T.look,T.ve,true,rfl,ifT rfl ?_⟩
  exact⟨_,rfl,_,rfl,q _ st⟩
abbrev aZ:Stmt:=top 54
theorem znj:aB ["_law_way","_law_signs","_law_thing","_law_good","_law_e"] ["_law_way","_law_signs","_law_thing"] (ah aZ):=⟨rfl,rfl,rfl,by decide +kernel,rfl,by decide +kernel,by decide +kernel⟩
theorem znk:LN .globalImplicit aZ "FewError":=by decide +kernel
theorem znl:LN .local aZ "_law_e":=by decide +kernel
theorem znm:LN .globalImplicit aZ "_law_flags":=by decide +kernel
theorem znn:LN .local aZ "_law_good":=by decide +kernel
theorem zno:LN .local aZ "_law_signs":=by decide +kernel
theorem znp:LN .local aZ "_law_thing":=by decide +kernel
theorem znq:LN .local aZ "_law_way":=by decide +kernel
theorem znr:LN .globalImplicit aZ "fillings":=by decide +kernel
theorem zns:LN .globalImplicit aZ "sizes_to":=by decide +kernel
def jQ (C T:Addr):Sp:=fun vs H Q _=>∃ (n:Int) (g:Addr) (v:V) (ks:List Str) (ts:List br) (fs:List bt),vs=[.int n,.ref g,v]∧bC C H g ks ts fs∧dE ks ts fs∧ks.length≤4∧Sh H v∧TblOk H T iE∧
 (n=0→∀ t:Nat,v=.int t→16<t)∧(n≠0→(∀ xs,rowOf H v=some xs→∀ y∈xs,Sh H y)∧¬ oK H ks v)∧∀ H',av H H'→Q (.bl true) H'
theorem nU {C N TT fe x1 x2 x3 x4 x5 x6 x7 x8:Addr} (F:aL K mg "_law_refused" aZ ["_law_way","_law_signs","_law_thing"]) (Z:Bl mg) (O_FewError:mg "FewError"=some (.ref fe)∧ue K fe∧PySem.W.mroIn K fe (.type "BaseException")=some true) (T:Xs K N fe [x1,x2,x3,x4,x5,x6,x7,x8])
  (D_law_flags:vE P w K mg base "_law_flags" 1 ["_law_e"] (oY N)) (D_sizes_to:fY P w K mg base "sizes_to" 5 ["signs","total"] (iJ C N TT)) (D_fillings:fY P w K mg base "fillings" 5 ["signs","size"] (nj C N)):Def P w K mg base "_law_refused" 6 ["_law_way","_law_signs","_law_thing"] (jQ C TT):=by
 have SC:=znj
 refine F.mk' (k:=5) znj (fun vs H Q E h=>?_) (fun f cdv A outer s H vs Q E hr h=>?_)
 ·obtain⟨n,g,v,ks,ts,fs,rfl,_⟩:=h
  rfl
 ·obtain⟨n,g,v,ks,ts,fs,rfl,hS,ok,k4,hv,tb,b0,b1,q⟩:=h
  refine'⟨_,?derivation,?_⟩
  case derivation=>refine' ak ?Aa ?Ba;(case Aa=>refine' bc (i:=3) (x:=Str.ofString "_law_good") ?Ca ?Da ?Ea ?Fa ?Ga ?Ha;(case Ca=>exact SC.nd);(case Da=>exact rfl);(case Ea=>exact(Or.inl znn));(case Fa=>exact gE);(case Ga=>rfl);case Ha=>exact .inl rfl);case Ba=>refine' ak ?Ia ?Ja;(case Ia=>refine' rK (Ec:=(EcR N H)) (i:=4) (n:=Str.ofString "_law_e") (hdb:=zmh) O_FewError.1 O_FewError.2.1 O_FewError.2.2 znk SC.nd rfl znl ?Ka ?La;(case Ka=>intro _;refine' am ?Ma;case Ma=>refine' cy ?Na ?Oa ?Pa;(case Na=>refine' bO pv (pq 0 (ap znq) zm1 zm2) ?Qa (ck _);case Qa=>exact aq);(case Oa=>refine' am ?Ra;case Ra=>refine' cZ ?Sa rfl;case Sa=>refine' fO (hdb:=zm4) (jp bT) D_sizes_to (hr.mono (by decide)) zns ?Ta rfl rfl;case Ta=>refine' aa (pq 1 (ap zno) zmx zmy) ?Ua ?Va;(case Ua=>refine' aa (pq 2 (ap znp) zku zkv) ae ?Wa;case Wa=>rfl);case Va=>rfl);case Pa=>refine' am ?Xa;case Xa=>refine' cZ ?Ya rfl;case Ya=>refine' fO (hdb:=zm3) (jp bT) D_fillings (hr.mono (by decide)) znr ?Za rfl rfl;case Za=>refine' aa (pq 1 (ap zno) zmx zmy) ?Ab ?Bb;(case Ab=>refine' aa (pq 2 (ap znp) zku zkv) ae ?Cb;case Cb=>rfl);case Bb=>rfl);case La=>intro _ _;refine' am ?Db;case Db=>refine' bc (i:=3) (x:=Str.ofString "_law_good") ?Eb ?Fb ?Gb ?Hb ?Ib ?Jb;(case Eb=>exact SC.nd);(case Fb=>exact rfl);(case Gb=>exact(Or.inl znn));(case Hb=>refine' uN (hdb:=zmu) D_law_flags (dj.mark (dj.mono (bN.u hr) (by decide)) _) znm ?Kb rfl rfl;case Kb=>refine' aa (pq 4 (ap znl) zms zmt) ae ?Lb;case Lb=>rfl);(case Ib=>rfl);case Jb=>exact .inl rfl);case Ja=>refine' am ?Mb;case Mb=>refine' aO (pq 3 (ap znn) zmv zmw)
  refine⟨?_,?_⟩
  ·refine⟨_,rfl,rfl,_,rfl,?_⟩
   refine sV (fun e=>?_) (fun e=>?_)
   ·have e:n=0:=V.int.inj (of_decide_eq_true e)
    exact⟨_,rfl,_,rfl,g,v,ks,ts,fs,rfl,hS,k4,hv,tb,fun t et h=>absurd (b0 e t et) (by omega),fun _ H1 s1=>⟨rfl,s1⟩⟩
   ·have e:n≠0:=fun z=>e (decide_eq_true (congrArg V.int z))
    exact⟨_,rfl,_,rfl,g,v,ks,ts,fs,rfl,hS,ok,hv,(b1 e).1,fun ns h1 h2=>absurd ⟨ns,h1,h2⟩ (b1 e).2,fun _ H1 s1=>⟨rfl,s1⟩⟩
  ·rintro cls dx H1 σ1 ⟨rfl,s1⟩ hl
   obtain⟨o1,o2,o3,o4,o5,rfl⟩:∃ o1 o2 o3 o4 o5,σ1=[o1,o2,o3,o4,o5]:=by
    match σ1,hl with
    | [o1,o2,o3,o4,o5],_=>exact⟨o1,o2,o3,o4,o5,rfl⟩
   refine⟨N,rfl,T.up,fun a ha=>?_⟩
   have sa:=af ha (oM N a dx)
   exact⟨_,rfl,a,dx,rfl,ac,fun H2 s2=>⟨_,rfl,q _ ((s1.trans sa).trans s2)⟩⟩
end
theorem znt:LD "_law_one":=by decide +kernel
theorem znu:LS "_law_one":=by decide +kernel
theorem znv:LD "_law_pairs":=by decide +kernel
theorem znw:LS "_law_pairs":=by decide +kernel
theorem znx:LD "_law_total":=by decide +kernel
theorem zny:LS "_law_total":=by decide +kernel
theorem n6 {H:Hp} {D:Addr} {bs:List Addr} (hD:H D=some (.lst (bs.map V.ref))) (o:HO):∀ {as:List Addr} {rs:List (List Nat)},en H as rs→(∀ r∈rs,r≠[])→en (upd H D o) as rs
 | _,_,.nil,_=>.nil
 | a::_,r::_,.cons e h,hn=>.cons (by
   rw [ag fun z=>?_]
   ·exact e
   ·rw [z,hD] at e
    match r,hn r List.mem_cons_self,bs,e with
    | [],n,_,_=>exact n rfl
    | _::_,_,[],e=>cases e
    | _::_,_,_::_,e=>cases e) (n6 hD o h fun r hr=>hn r (List.mem_cons_of_mem _ hr))
theorem tq {rs:List (List Nat)}:∀ r∈dP rs,r≠[]:=fun r h=>by
 obtain⟨q,_,h⟩:=List.mem_flatMap.mp h
 obtain⟨x,_,rfl⟩:=List.mem_map.mp h
 simp
theorem ky {H H':Hp} {v:V} {r:List Nat} (s:av H H') (h:gR H v r):gR H' v r:=
 let ⟨ta,u,e,h1,ra,e2,h2⟩:=h; ⟨ta,u,e,s _ _ h1,ra,e2,s _ _ h2⟩
section
variable {P:Program} {w:World} {K:PySem.W.Frag} {mg:Str→Option Value} {base:Heap}
abbrev be:Stmt:=top 55
theorem znz:aB ["_law_many_here","_law_total","_law_rows_here","_law_k","_law_longer","_law_row","_law_pairs"] ["_law_many_here","_law_total"] (ah be):=⟨rfl,rfl,rfl,by decide +kernel,rfl,by decide +kernel,by decide +kernel⟩
theorem zn0:LN .local be "_law_k":=by decide +kernel
theorem zn1:LN .local be "_law_longer":=by decide +kernel
theorem zn2:LN .local be "_law_many_here":=by decide +kernel
theorem zn3:LN .local be "_law_pairs":=by decide +kernel
theorem zn4:LN .cell be "_law_row":=by decide +kernel
theorem zn5:LN .local be "_law_rows_here":=by decide +kernel
theorem zn6:LN .globalImplicit be "range":=by decide +kernel
theorem zn7:LN .globalImplicit be "sorted":=by decide +kernel
abbrev xl:Scope:={kind:=PySem.ScopeKind.function,names:=[ (PySem.Str.ofString ".0",PySem.NameKind.local),(PySem.Str.ofString "_law_whole",PySem.NameKind.local),(PySem.Str.ofString "_law_row",PySem.NameKind.local)],isGenerator:=false,isCoroutine:=false,more:=[]:PySem.Scope}
theorem zn8:cw 2 ["_law_whole","_law_row","_law_many_here","_law_total","_law_rows_here","_law_k","_law_longer",".h_law_row","_law_pairs"] ["_law_many_here","_law_total","_law_rows_here","_law_k","_law_longer","_law_row","_law_pairs"] (ah be) xl:=⟨rfl,by decide +kernel,by decide +kernel,by decide +kernel,by decide +kernel,rfl,by decide +kernel⟩
theorem zn9:LC .local xl "_law_row":=by decide +kernel
theorem zoa:LC .local xl "_law_whole":=by decide +kernel
abbrev vB:Scope:={kind:=PySem.ScopeKind.function,names:=[ (PySem.Str.ofString ".0",PySem.NameKind.local),(PySem.Str.ofString "_law_row",PySem.NameKind.local),(PySem.Str.ofString "sum",PySem.NameKind.globalImplicit),(PySem.Str.ofString "_law_total",PySem.NameKind.free)],isGenerator:=false,isCoroutine:=false,more:=[]:PySem.Scope}
theorem zob:cw 1 ["_law_row","_law_many_here","_law_total","_law_rows_here","_law_k","_law_longer",".h_law_row","_law_pairs"] ["_law_many_here","_law_total","_law_rows_here","_law_k","_law_longer","_law_row","_law_pairs"] (ah be) vB:=⟨rfl,by decide +kernel,by decide +kernel,by decide +kernel,by decide +kernel,rfl,by decide +kernel⟩
theorem zoc:LC .local vB "_law_row":=by decide +kernel
theorem zod:LC .free vB "_law_total":=by decide +kernel
theorem zoe:LC .globalImplicit vB "sum":=by decide +kernel
abbrev xk:Scope:={kind:=PySem.ScopeKind.function,names:=[ (PySem.Str.ofString ".0",PySem.NameKind.local),(PySem.Str.ofString "_law_one",PySem.NameKind.local),(PySem.Str.ofString "_law_row",PySem.NameKind.free)],isGenerator:=false,isCoroutine:=false,more:=[]:PySem.Scope}
theorem zof:cw 1 ["_law_one","_law_many_here","_law_total","_law_rows_here","_law_k","_law_longer","_law_row","_law_pairs"] ["_law_many_here","_law_total","_law_rows_here","_law_k","_law_longer","_law_row","_law_pairs"] (ah be) xk:=⟨rfl,by decide +kernel,by decide +kernel,by decide +kernel,by decide +kernel,rfl,by decide +kernel⟩
theorem zog:LC .local xk "_law_one":=by decide +kernel
theorem zoh:LC .free xk "_law_row":=by decide +kernel
def lG:Sp:=fun vs H Q _=>∃ (m t:Nat),vs=[.int m,.int t]∧m≤4∧t≤16∧∀ D as H',H D=none→H' D=some (.lst (as.map V.ref))→en H' as (due m t)→av H H'→Q (.ref D) H'
theorem qi (F:aL K mg "_law_sizes" be ["_law_many_here","_law_total"]) (Z:Bl mg) (n_sum:mg "sum"=none) (n_sorted:mg "sorted"=none):Def P w K mg base "_law_sizes" 1 ["_law_many_here","_law_total"] lG:=by
 have SC:=znz
 refine F.mk' (k:=0) znz (fun vs H Q E h=>?_) (fun f cdv A outer s H vs Q E hr h=>?_)
 ·obtain⟨m,t,rfl,_⟩:=h
  rfl
 ·obtain⟨m,t,rfl,m4,t16,q⟩:=h
  have one:1≤sizeLine:=by decide
  refine'⟨_,?derivation,?_⟩
  case derivation=>refine' ak ?Aa ?Ba;(case Aa=>refine' bc (i:=2) (x:=Str.ofString "_law_rows_here") ?Ca ?Da ?Ea ?Fa ?Ga ?Ha;(case Ca=>exact SC.nd);(case Da=>exact rfl);(case Ea=>exact(Or.inl zn5));(case Fa=>refine' aU ?Ia;case Ia=>refine' aa ?Ja ae ?Ka;(case Ja=>refine' aU ae);case Ka=>rfl);(case Ga=>rfl);case Ha=>exact .inl rfl);case Ba=>refine' ak ?La ?Ma;(case La=>refine' cg PassesOwn.never rfl ?Na ?Oa ?Pa ?Qa;(case Na=>refine' eF zn6 Z.n_range ?Ra rfl;case Ra=>refine' aa (pq 0 (ap zn2) zbh zbi) ae ?Sa;case Sa=>rfl);(case Oa=>refine' au (i:=3) (x:=Str.ofString "_law_k") SC.nd rfl (Or.inl zn0) (.inl rfl));(case Pa=>refine' ak ?Ta ?Ua;(case Ta=>refine' bc (i:=4) (x:=Str.ofString "_law_longer") ?Va ?Wa ?Xa ?Ya ?Za ?Ab;(case Va=>exact SC.nd);(case Wa=>exact rfl);(case Xa=>exact(Or.inl zn1));(case Ya=>refine' aU ae);(case Za=>rfl);case Ab=>exact .inl rfl);case Ua=>refine' ak ?Bb ?Cb;(case Bb=>refine' cg PassesOwn.never rfl ?Db ?Eb ?Fb ?Gb;(case Db=>refine' bn (pq 2 (ap zn5) zkq zkr));(case Eb=>refine' au (i:=5) (x:=Str.ofString "_law_row") SC.nd rfl (Or.inr zn4) (.inl rfl));(case Fb=>refine' am ?Hb;case Hb=>refine' cZ ?Ib rfl;case Ib=>refine' jb PySem.F.plainAttrs_list PySem.F.slot_list_extend PySem.F.type_list_extend hJ (pq 4 (ap zn1) zkl zkm) ?Jb rfl rfl rfl rfl rfl;case Jb=>refine' aa ?Kb ae ?Lb;(case Kb=>refine' dF gF rfl zof.at ?Mb ?Nb ?Ob ?Pb;(case Mb=>refine' kD ?Qb;case Qb=>refine' cj ?Rb;case Rb=>refine' aa ?Sb ?Tb ?Ub;(case Sb=>exact aq);(case Tb=>refine' aa ?Vb ?Wb ?Xb;(case Vb=>exact aq);(case Wb=>refine' aa ?Yb ?Zb ?Ac;(case Yb=>exact aq);(case Zb=>refine' aa ?Bc ae ?Cc;(case Bc=>exact aq);case Cc=>rfl);case Ac=>rfl);case Xb=>rfl);case Ub=>rfl);(case Nb=>intro _ _ _ _ _;refine' au (i:=0) zof.nd rfl (eL zog) (.inr (lookup_relabel_local zog)));(case Ob=>intro _ _ _ _ _;refine' bW fo (pq 6 (eZ zoh) zko zkp) ?Dc;case Dc=>refine' aU ?Ec;case Ec=>refine' aa (pq 0 (eW zog) znt znu) ae ?Fc;case Fc=>rfl);case Pb=>intro _; rfl);case Lb=>rfl);case Gb=>intro _; rfl);case Cb=>refine' am ?Gc;case Gc=>refine' bc (i:=2) (x:=Str.ofString "_law_rows_here") ?Hc ?Ic ?Jc ?Kc ?Lc ?Mc;(case Hc=>exact SC.nd);(case Ic=>exact rfl);(case Jc=>exact(Or.inl zn5));(case Kc=>exact(pq 4 (ap zn1) zkl zkm));(case Lc=>rfl);case Mc=>exact .inl rfl);case Qa=>intro _; rfl);case Ma=>refine' ak ?Nc ?Oc;(case Nc=>refine' lS (i:=6) (x:=Str.ofString "_law_pairs") SC.nd rfl (Or.inl zn3) rfl bT rfl zob.at ?Pc ?Qc ?Rc ?Sc ?Tc (.inl rfl);(case Pc=>refine' bn (pq 2 (ap zn5) zkq zkr));(case Qc=>intro _ _ _ _ _;refine' au (i:=0) zob.nd rfl (eL zoc) (.inr (lookup_relabel_local zoc)));(case Rc=>intro _ _ _ _ _;refine' bO f9 ?Uc (pq 2 (eZ zod) znx zny) (ck _);case Uc=>refine' aD (hn:=zjw) (hdb:=zjv) (gP hr.hd) (glO zoe) n_sum kX ?Vc rfl rfl;case Vc=>refine' aa (pq 0 (eW zoc) zko zkp) ae ?Wc;case Wc=>rfl);(case Sc=>intro _ _ _ _ _;refine' cj ?Xc;case Xc=>refine' aa ?Yc ?Zc ?Ad;(case Yc=>refine' aD (hn:=zjw) (hdb:=zjv) (gP hr.hd) (glO zoe) n_sum kX ?Bd rfl rfl;case Bd=>refine' aa (pq 0 (eW zoc) zko zkp) ae ?Cd;case Cd=>rfl);(case Zc=>refine' aa (pq 0 (eW zoc) zko zkp) ae ?Dd;case Dd=>rfl);case Ad=>rfl);case Tc=>intro _; rfl);case Oc=>refine' am ?Ed;case Ed=>refine' aO ?Fd;case Fd=>refine' dF gF rfl zn8.at ?Gd ?Hd ?Id ?Jd;(case Gd=>refine' bn ?Kd;case Kd=>refine' aD (hn:=zju) (hdb:=zjt) (kU hr.units) zn7 n_sorted j9 ?Ld rfl rfl;case Ld=>refine' aa (pq 6 (ap zn3) znv znw) ae ?Md;case Md=>rfl);(case Hd=>intro _ _ _ _ _;refine' ja rfl ?Nd rfl rfl;case Nd=>refine' bE ?Od ?Pd ?Qd;(case Od=>refine' au (i:=0) zn8.nd rfl (eL zoa) (.inr (lookup_relabel_local zoa)));(case Pd=>refine' bE ?Rd eK ?Sd;(case Rd=>refine' au (i:=1) zn8.nd rfl (eL zn9) (.inr (lookup_relabel_local zn9)));case Sd=>rfl);case Qd=>rfl);(case Id=>intro _ _ _ _ _;exact(pq 1 (eW zn9) zko zkp));case Jd=>intro _; rfl
  refine⟨by show 0≤sizeLine; decide,fun t0 ht=>⟨one,fun l0 hl0=>?_⟩⟩
  have s1:av H (upd (upd H t0 (.lst [])) l0 (.lst [.ref t0])):=(af ht _).trans (af hl0 _)
  have et:(upd (upd H t0 (.lst [])) l0 (.lst [.ref t0])) t0=some (.lst []):=af hl0 _ _ _ ac
  have el:(upd (upd H t0 (.lst [])) l0 (.lst [.ref t0])) l0=some (.lst [.ref t0]):=ac
  have fl:H l0=none:=(af ht (.lst [])).free hl0
  generalize (upd (upd H t0 (.lst [])) l0 (.lst [.ref t0]))=G at s1 et el
  refine⟨_,rfl,m,rfl,by omega,by omega,?_⟩
  rw [Int.toNat_natCast]
  refine qF (fun i σ H2=>∃ (l:Addr) (as:List Addr) (v3 v4 v5:Option V),σ=[some (.int m),some (.int t),some (.ref l),v3,v4,v5,none]∧av H H2∧H l=none∧H2 l=some (.lst (as.map V.ref))∧en H2 as (rowsN i))
   ⟨l0,[t0],none,none,none,rfl,s1,fl,el,.cons et .nil⟩ ?_ ?_
  ·rintro i σ H2 hi ⟨l,as,v3,v4,v5,rfl,s3,hl,el,hr2⟩
   have rsl:(rowsN i).length≤64:=by
    rw [cY]
    exact Nat.le_trans (Nat.pow_le_pow_right (by decide) (show i≤3 by omega)) (by decide)
   have rl:∀ r∈rowsN i,r.length≤4:=fun r hr=>by rw [(gy hr).1]; omega
   have asl:as.length=(rowsN i).length:=Paired.length hr2
   have enx:rowsN (i+1)=dP (rowsN i):=rfl
   generalize rowsN i=rs at hr2 rsl asl enx rl
   refine⟨by show 0≤sizeLine; decide,fun D hD=>?_⟩
   have sD:=af hD (.lst [])
   refine⟨_,rfl,l,rfl,⟨_,SqL.of (sD _ _ el)⟩,bM (K:=K) (a:=l) (xs:=as.map V.ref) (fun j σ H3=>∃ (v5:Option V) (bs:List Addr),σ=[some (.int m),some (.int t),some (.ref l),some (.int (0+(i:Int))),some (.ref D),v5,none]∧av H2 H3∧H3 D=some (.lst (bs.map V.ref))∧en H3 bs (dP (rs.take j)))
    ⟨_,[],rfl,sD,ac,.nil⟩ (fun j σ H3 _ ⟨_,_,_,y,_⟩=>SqL.of (y _ _ el)) ?_ ?_⟩
   ·rintro j y σ H3 hj ⟨v5,bs,rfl,s4,e4,r4⟩
    rw [List.getElem?_map] at hj
    obtain⟨ra,hra,rfl⟩:=Option.map_eq_some_iff.mp hj
    obtain⟨r,hr',er⟩:=Paired.at hr2 hra
    have esucc:dP (rs.take (j+1))=dP (rs.take j)++[1,2,3,4].map fun x=>r++[x]:=by
     rw [List.take_succ,hr']
     unfold dP
     rw [List.flatMap_append]
     simp
    have bsl:bs.length≤256:=by
     rw [Paired.length r4,eO,List.length_take]; omega
    refine⟨_,rfl,.inl ⟨rfl,_,SqL.of e4⟩,?_⟩
    refine⟨by show 4≤sizeLine; decide,fun tp htp=>⟨tp,rfl,⟨_,SqT.of ac⟩,?_⟩⟩
    have s5:=af htp (.tup [.int 1,.int 2,.int 3,.int 4])
    have etp:(upd H3 tp (.tup [.int 1,.int 2,.int 3,.int 4])) tp=some (.tup [.int 1,.int 2,.int 3,.int 4]):=ac
    generalize (upd H3 tp (.tup [.int 1,.int 2,.int 3,.int 4]))=H4 at s5 etp
    have er4:=s5 _ _ (s4 _ _ er)
    intro cl C ex s0 Hc
    refine df 4 (fun i' ys H5=>∃ cs:List Addr,ys=cs.map V.ref∧av H4 H5∧en H5 cs (([1,2,3,4].take i').map fun x=>r++[x])) (fun i' x=>x=.int (1+(i':Int))) ⟨[],rfl,av.refl _,.nil⟩ (by decide)
     (fun i' ys H5 hi' _ ⟨_,_,y,_⟩=>⟨(kR (K:=K) (SqT.of (y _ _ etp)) hi').1,fun x H' z=>?_⟩) (fun ys H5 _ ⟨_,_,y,_⟩=>iT (K:=K) (SqT.of (K:=K) (y _ _ etp))) ?_ ?_
    ·obtain⟨z1,z2⟩:=(kR (K:=K) (SqT.of (y _ _ etp)) hi').2 x H' z
     refine⟨z1,?_⟩
     match i',hi',z2 with
     | 0,_,z2=>cases z2; rfl
     | 1,_,z2=>cases z2; rfl
     | 2,_,z2=>cases z2; rfl
     | 3,_,z2=>cases z2; rfl
    ·rintro i' x ys H5 hi' rfl hy ⟨cs,rfl,s6,r5⟩
     refine⟨_,rfl,_,rfl,one,fun p hp=>?_⟩
     have s7:=af hp (.lst [V.int (1+(i':Int))])
     have eN:([1,2,3,4]:List Nat).take (i'+1)=([1,2,3,4]:List Nat).take i'++[i'+1]:=by
      match i',hi' with
      | 0,_=>rfl
      | 1,_=>rfl
      | 2,_=>rfl
      | 3,_=>rfl
     refine⟨ra,p,rV r,_,rfl,rfl,s7 _ _ (s6 _ _ er4),ac,Nat.le_trans (show _≤100 from ?_) (by decide),fun p2 hp2=>?_⟩
     ·have:=rl r (List.mem_of_getElem? hr')
      rw [List.length_map]
      show r.length+1≤100
      omega
     have s8:=af hp2 (.lst (rV r++[V.int (1+(i':Int))]))
     refine⟨cs++[p2],by simp,s6.trans (s7.trans s8),?_⟩
     rw [eN,List.map_append]
     refine Paired.app (Paired.mapP r5 fun _ _ e=>(s7.trans s8) _ _ e) (.cons ?_ .nil)
     rw [ac]
     congr 1; congr 1
     show rV r++[V.int (1+(i':Int))]=rV (r++[i'+1])
     rw [show rV (r++[i'+1])=rV r++[V.int ((i'+1:Nat):Int)] from List.map_append,show (1+(i':Int))=((i'+1:Nat):Int) by omega]
    ·rintro ys H5 hy ⟨cs,rfl,s6,r5⟩ D2 hD2
     have s7:=af hD2 (.lst (cs.map V.ref))
     have e7:=s7 _ _ (s6 _ _ (s5 _ _ e4))
     have d7:(upd H5 D2 (.lst (cs.map V.ref))) D2=some (.lst (cs.map V.ref)):=ac
     have s37:av H3 (upd H5 D2 (.lst (cs.map V.ref))):=s5.trans (s6.trans s7)
     have r7:en _ cs _:=Paired.mapP r5 fun _ _ e=>s7 _ _ e
     have r7':en (upd H5 D2 (.lst (cs.map V.ref))) bs _:=Paired.mapP r4 fun _ _ e=>s37 _ _ e
     generalize (upd H5 D2 (.lst (cs.map V.ref)))=H6 at s7 e7 d7 s37 r7 r7'
     have csl:cs.length≤4:=by
      have:=Paired.length r7
      simp at this; omega
     refine⟨D,D2,_,_,rfl,rfl,e7,d7,Nat.le_trans (show (bs.map V.ref).length+(cs.map V.ref).length≤300 by rw [List.length_map,List.length_map]; omega) (by decide),_,bs++cs,rfl,fun c o e=>by rw [ag (al e hD)]; exact s37 c o (s4 c o e),by rw [ac,List.map_append],?_⟩
     rw [esucc]
     exact Paired.app (n6 e7 _ r7' tq) (n6 e7 _ r7 fun r hr=>by obtain⟨x,_,rfl⟩:=List.mem_map.mp hr; simp)
   ·rintro σ H3 ⟨v5,bs,rfl,s4,e4,r4⟩
    refine⟨_,rfl,D,bs,_,_,_,rfl,s3.trans s4,s3.free hD,e4,?_⟩
    rw [List.length_map,asl,List.take_length] at r4
    rw [enx]
    exact r4
  ·rintro σ H2 ⟨l,as,v3,v4,v5,rfl,s3,hl,el,hr2⟩
   have asl:as.length=(rowsN m).length:=Paired.length hr2
   have rsl:=lM m4
   refine⟨_,rfl,l,rfl,⟨_,SqL.of el⟩,fun cl C' ex s0 Hc=>mO as.length (fun i' ys H3=>av H2 H3∧Paired (gR H3) ys (((rowsN m).take i').filter fun r=>decide (r.sum≤t))) (fun i' x=>(as.map V.ref)[i']? = some x) ⟨av.refl _,.nil⟩
    ?_ (fun i' ys H3 hi' ⟨z,_⟩=>dU (SqL.of (z _ _ el)) (by rw [List.length_map]; exact hi')) (fun ys H3 ⟨z,_⟩=>by have:=cQ (K:=K) (SqL.of (K:=K) (z _ _ el)); rw [List.length_map] at this; exact this) ?_ ?_ ?_⟩
   ·rintro i' ys H3 hi' ⟨_,r3⟩
    rw [Paired.length r3]
    refine Nat.lt_of_le_of_lt (Nat.le_trans (List.length_filter_le _ _) ?_) (show 256<sizeLine by decide)
    rw [List.length_take]; omega
   ·rintro i' x ys H3 hi' hx ⟨z3,r3⟩
    rw [List.getElem?_map] at hx
    obtain⟨ra,hra,rfl⟩:=Option.map_eq_some_iff.mp hx
    obtain⟨r,hr',er⟩:=Paired.at hr2 hra
    refine⟨_,rfl,ra,r,rfl,SqL.of (z3 _ _ er),_,rfl,_,_,rfl,rfl,_,rfl,?_⟩
    have e:(rowsN m).take (i'+1)=(rowsN m).take i'++[r]:=by rw [List.take_succ,hr']; rfl
    by_cases hs:r.sum≤t
    ·refine ifT (by simp; omega) ?_
     refine⟨_,rfl,ra,r,rfl,SqL.of (z3 _ _ er),_,rfl,by show 2≤sizeLine; decide,fun p hp=>?_⟩
     have s5:=af hp (.tup [.int (r.sum:Nat),.ref ra])
     refine⟨z3.trans s5,?_⟩
     rw [e,List.filter_append,List.filter_cons_of_pos (by simpa using hs)]
     exact Paired.app (Paired.mapP r3 fun _ _ h=>ky s5 h) (.cons ⟨p,.ref ra,rfl,ac,ra,rfl,s5 _ _ (z3 _ _ er)⟩ .nil)
    ·refine ifF (by simp; omega) ⟨z3,?_⟩
     rw [e,List.filter_append,List.filter_cons_of_neg (by simpa using hs),List.filter_nil,List.append_nil]
     exact r3
   ·rintro ts H3 ⟨z3,r3⟩ D hD
    rw [asl,List.take_length] at r3
    have s4:=af hD (.lst ts)
    have r4:Paired (gR (upd H3 D (.lst ts))) ts (szs m t):=Paired.mapP r3 fun _ _ h=>ky s4 h
    have eD:(upd H3 D (.lst ts)) D=some (.lst ts):=ac
    have s04:=s3.trans (z3.trans s4)
    generalize (upd H3 D (.lst ts))=H4 at s4 r4 eD s04
    have lb:ts.length=(szs m t).length:=Paired.length r4
    have hp:=oP (m:=m) (t:=t) m4 t16
    refine⟨_,rfl,D,ts,szs m t,m,plc m t,rfl,SqL.of eD,by rw [lb]; exact Nat.le_trans (rh m4 t) (by decide),r4,fun r hr=>rf hr,m4,hp,fun D2 hD2=>⟨D2,rfl,⟨_,SqL.of ac⟩,?_⟩⟩
    have s5:=af hD2 (.lst ((plc m t).map fun i=>ts.getD i .non))
    have e5:(upd H4 D2 (.lst ((plc m t).map fun i=>ts.getD i .non))) D2=some (.lst ((plc m t).map fun i=>ts.getD i .non)):=ac
    generalize (upd H4 D2 (.lst ((plc m t).map fun i=>ts.getD i .non)))=H5 at s5 e5
    have r5:Paired (gR H5) ((plc m t).map fun i=>ts.getD i .non) (due m t):=by
     unfold due
     refine je _ fun i hi=>?_
     have h1:i<ts.length:=by
      have:=(Srt.srt_ok hp).1 i hi
      rw [List.length_map] at this; omega
     have h2:i<(szs m t).length:=by omega
     have:=dB r4 (i:=i) (x:=ts[i]) (y:=(szs m t)[i]) (by simp [h1]) (by simp [h2])
     rw [List.getD_eq_getElem?_getD,List.getElem?_eq_getElem h1,List.getD_eq_getElem?_getD,List.getElem?_eq_getElem h2]
     exact ky s5 this
    generalize ((plc m t).map fun i=>ts.getD i V.non)=xs at e5 r5
    have dl:xs.length=(due m t).length:=Paired.length r5
    intro cl2 C2 ex2 s02 Hc2
    refine tW (K:=K) xs.length (fun i ys H6=>H6=H5∧∃ bs:List Addr,ys=bs.map V.ref∧en H5 bs ((due m t).take i)) (fun i u v=>∃ r,(due m t)[i]? = some r∧jA H5 v r) ⟨rfl,[],rfl,.nil⟩ ?_ ?_ ?_ ?_ ?_
    ·rw [dl,show (due m t).length=(plc m t).length from List.length_map ..]
     exact Nat.le_trans (Srt.srt_ok hp).2 (by decide)
    ·rintro i ys H6 hi hy ⟨rfl,_⟩
     obtain⟨g1,g2⟩:=dU (K:=K) (SqL.of (K:=K) e5) hi
     refine⟨g1,fun x H' z=>?_⟩
     obtain⟨z1,z2⟩:=g2 x H' z
     obtain⟨r,hr',ta,u,rfl,h1,h2⟩:=Paired.at r5 z2
     exact⟨z1,ta,_,u,rfl,SqT.of h1,r,hr',h2⟩
    ·rintro ys H6 hy ⟨rfl,_⟩
     exact cQ (K:=K) (SqL.of (K:=K) e5)
    ·rintro i u v ys H6 hi ⟨r,hr',ra,rfl,h2⟩ hy ⟨rfl,bs,rfl,r6⟩
     refine⟨_,rfl,rfl,bs++[ra],by simp,?_⟩
     rw [List.take_succ,hr']
     exact Paired.app r6 (.cons h2 .nil)
    ·rintro ys H6 hy ⟨rfl,bs,rfl,r6⟩ D3 hD3
     have s7:=af hD3 (.lst (bs.map V.ref))
     rw [dl,List.take_length] at r6
     exact q D3 bs _ ((s04.trans s5).free hD3) ac (Paired.mapP r6 fun _ _ e=>s7 _ _ e) ((s04.trans s5).trans s7)
   ·rintro σ' H' Q1 Q2 ⟨v0,e0,l',r',e1,sq,v1,e2,i1,j1,e3,e4,b1,e5,h⟩ k5
    exact⟨v0,e0,l',r',e1,sq,v1,e2,i1,j1,e3,e4,b1,e5,k5 _ _ h⟩
end
end Few
namespace L2
open PySem PySem.Spec PyProof.Rows
theorem TblOk.went {H H':Hp} {T p:Addr} {q:Str} {xs:List V} (h:TblOk H T q) (hp:H p=some (.lst xs)) (s:ay p H H'):TblOk H' T q:=by
 obtain⟨ps,e,t,c⟩:=h
 refine⟨ps,s _ _ (fun z=>?_) e,t,fun p' v z=>?_⟩
 ·rw [z,hp] at e; cases e
 ·obtain⟨a,e1,e2⟩:=c p' v z
  refine⟨a,e1,s _ _ (fun z=>?_) e2⟩
  rw [z,hp] at e2; cases e2
end L2
namespace Few
open PySem PySem.Spec L2
theorem eH {X:Cx} {x:Str} {k:Nat} {ps:List Str} {sp:Sp} {p pos:Pos} {e:Expr} {es:List Expr} {t:TA} (D:fY X.prog X.w X.K X.mg X.base x k ps sp) (hr:bN k X.A) (hg:Gl X x) (ha:PA X (e::es) t)
  (hdb:(x==("__debug__":Str))=false:=by decide) (he:starEach (e::es) X.env=(false,eval e X.env)::starEach es X.env:=by rfl) (hpl:(backTo pos (starEach es X.env)).any (·.1)=false:=by rfl) :
  PE X (.Call (.Name x p) (e::es) [] pos) (jP sp [] E0 t):=by
 obtain⟨f,fd,hm,hk,hb,F⟩:=D
 exact kG F hr hg hm hk hb .nil (fun _ _ _ _ _ _ _ ⟨_,_,_,_,_,_,_,_,_,_,_,_,z⟩=>z.elim) ha hdb he hpl
def lN (r:List Nat):PyData:=.list (r.map fun n:Nat=>.int n)
theorem lO {H:Hp}:∀ (r:List Nat),em H (rV r) (r.map fun n:Nat=>PyData.int n)
 | []=>.nil
 | i::r=>.cons (.int i) (lO r)
theorem ny {H:Hp}:∀ {ls:List Addr} {nm:List (List Nat)},en H ls nm→em H (ls.map V.ref) (nm.map lN)
 | _,_,.nil=>.nil
 | _,_,.cons e r=>.cons (.lst e (lO _)) (ny r)
theorem mi:∀ r:List Nat,PyData.canLayAll0 (r.map fun n:Nat=>PyData.int n)=true
 | []=>rfl
 | i::r=>by
  show (PyData.canLay0 (.int i)&&PyData.canLayAll0 (r.map fun n:Nat=>PyData.int n))=true
  rw [mi r]; rfl
theorem mh:∀ nm:List (List Nat),PyData.canLayAll0 (nm.map lN)=true
 | []=>rfl
 | r::nm=>by
  show (PyData.canLay0 (lN r)&&PyData.canLayAll0 (nm.map lN))=true
  rw [mh nm,show PyData.canLay0 (lN r)=PyData.canLayAll0 (r.map fun n:Nat=>PyData.int n) from rfl,mi]; rfl
theorem mK:∀ r:List Nat,PyData.depthAll (r.map fun n:Nat=>PyData.int n)=0
 | []=>rfl
 | i::r=>by
  show max (PyData.depth (.int i)) (PyData.depthAll (r.map fun n:Nat=>PyData.int n))=0
  rw [mK r]; rfl
theorem vk {r:List Nat}:(lN r).depth≤8:=by
 have e:PyData.depth (lN r)=PyData.depthAll (r.map fun n:Nat=>PyData.int n)+1:=rfl
 rw [mK] at e
 omega
theorem eQ {H:Hp} {Q:VK} {a b:Addr} {v:V} {ts us:List Addr} {nm:List (List Nat)} (ha:H a=some (.lst (ts.map V.ref))) (hb:H b=some (.lst (us.map V.ref))) (ht:en H ts nm) (hu:en H us nm) (q:Q v H):rAlikeI v (.ref a) (.ref b) H Q:=
 ⟨a,b,_,_,nm.map lN,rfl,rfl,ha,hb,ny ht,ny hu,mh _,fun d hd=>by obtain⟨r,_,rfl⟩:=List.mem_map.mp hd; exact vk,q⟩
theorem u6 {xs:List V} {lo hi:Option Int} {y:V} (h:y∈cutV xs lo hi):y∈xs:=List.mem_of_mem_drop (List.mem_of_mem_take h)
theorem tV (ns:List Nat):cutV (ns.map iV) none (some (-1))=ns.dropLast.map iV:=by
 unfold cutV
 show ((ns.map iV).drop 0).take (((-1:Int)+((ns.map iV).length:Int)).toNat-0)=_
 rw [List.drop_zero,List.dropLast_eq_take,List.map_take,List.length_map]
 congr 1
 omega
theorem ku {R:Addr→Prop} {H:Hp} {v:V} {d:PyData} (h:RdV R H v d):RdV Any H v d:=h.mono (fun _ _=>trivial) fun _ _ _ e=>e
theorem jO {R:Addr→Prop} {H:Hp}:∀ {ts:List br} {tv:List V},RdA R H tv (ts.map pU)→∃ ab:List (Addr×Addr),tv=ab.map (fun q=>V.ref q.1)∧Sgs H ab (ts.map q9)
 | [],_,.nil=>⟨[],rfl,.nil⟩
 | t::r,_,.cons a b=>by
  obtain⟨ab,rfl,hs⟩:=jO b
  obtain⟨q1,qx,rfl,_,h1,h2⟩:=RdV.tuple_inv a
  obtain⟨u,v,rfl,hu,hv⟩:=h2.two
  obtain rfl:=hu.str_inv
  obtain⟨q2,qy,rfl,_,h3,h4⟩:=hv.list_inv
  obtain rfl:=h4.strs_inv
  exact⟨(q1,q2)::ab,rfl,.cons ⟨.inr h1,.inl h3⟩ hs⟩
theorem j0 {R:Addr→Prop} {H:Hp}:∀ {ts:List bt} {tv:List V},RdA R H tv (ts.map qE)→∃ ab:List (Addr×Addr),tv=ab.map (fun q=>V.ref q.1)∧Sgs H ab (ts.map tF)
 | [],_,.nil=>⟨[],rfl,.nil⟩
 | t::r,_,.cons a b=>by
  obtain⟨ab,rfl,hs⟩:=j0 b
  obtain⟨q1,qx,rfl,_,h1,h2⟩:=RdV.tuple_inv a
  obtain⟨u,v,x,rfl,hu,hv,hx⟩:=h2.three
  obtain rfl:=hu.str_inv
  obtain rfl:=hx.str_inv
  obtain⟨q2,qy,rfl,_,h3,h4⟩:=hv.list_inv
  obtain rfl:=h4.strs_inv
  exact⟨(q1,q2)::ab,rfl,.cons ⟨.inr h1,.inl h3⟩ hs⟩
theorem mI:dE [("a":Str)] [] [] where
 kn:=by simp
 k1:=by decide
 k4:=by decide
 kn2:=fun k hk=>me k (by rw [List.mem_singleton.mp hk]; exact List.mem_cons_self)
 sn:=by simp
 sl:=by decide
 tn:=fun _ h=>nomatch h
 fn:=fun _ h=>nomatch h
theorem ul {H H':Hp} {T p:Addr} {q:Str} (h:TblOk H T q) (hp:cW H p) (s:ay p H H'):TblOk H' T q:=by
 obtain⟨_,_,_,e,_⟩:=hp
 exact h.went e s
def K2 (p T:Addr) (H H':Hp):Prop:=∀ b o,b≠p→b≠T→H b=some o→H' b=some o
structure Pth (p T:Addr) (H0 H:Hp):Prop where
 k:K2 p T H0 H
 pot:cW H p
 tb:TblOk H T iE
theorem Pth.refl {p T:Addr} {H:Hp} (h:cW H p) (t:TblOk H T iE):Pth p T H H:=⟨fun _ _ _ _ e=>e,h,t⟩
theorem Pth.same {p T:Addr} {H0 H H':Hp} (a:Pth p T H0 H) (s:av H H'):Pth p T H0 H':=⟨fun b o n1 n2 e=>s b o (a.k b o n1 n2 e),a.pot.keep s,a.tb.same s⟩
theorem Pth.draw {p T:Addr} {H0 H H':Hp} (a:Pth p T H0 H) (h:cW H' p) (s:ay p H H'):Pth p T H0 H':=⟨fun b o n1 n2 e=>s b o n1 (a.k b o n1 n2 e),h,ul a.tb a.pot s⟩
theorem _root_.L2.TblOk.neL {H:Hp} {T a:Addr} {q:Str} {xs:List V} (h:TblOk H T q) (e:H a=some (.lst xs)):a≠T:=fun z=>h.nl xs (z▸e)
theorem _root_.L2.TblOk.neT {H:Hp} {T a:Addr} {q:Str} {xs:List V} (h:TblOk H T q) (e:H a=some (.tup xs)):a≠T:=fun z=>by obtain⟨ps,e2,_⟩:=h; rw [z,e2] at e; cases e
theorem _root_.L2.TblOk.neN {H:Hp} {T a:Addr} {q:Str} (h:TblOk H T q) (e:H a=none):a≠T:=fun z=>by obtain⟨ps,e2,_⟩:=h; rw [z,e2] at e; cases e
theorem uL {H H':Hp} {T p:Addr} {q:Str} (h:TblOk H T q) (hp:cW H p) (s:ay T H H'):cW H' p:=let ⟨a,b,c,e,r⟩:=hp; ⟨a,b,c,s _ _ (h.neL e) e,r⟩
theorem Pth.tab {p T:Addr} {H0 H H':Hp} (a:Pth p T H0 H) (s:ay T H H') (t:TblOk H' T iE):Pth p T H0 H':=⟨fun b o n1 n2 e=>s b o n2 (a.k b o n1 n2 e),uL a.tb a.pot s,t⟩
theorem Pth.nP {p T a:Addr} {H0 H:Hp} (x:Pth p T H0 H) (e:H a=none):a≠p:=fun z=>by obtain⟨o,e2⟩:=x.pot.some; rw [← z,e] at e2; cases e2
theorem Pth.signs {p T C x:Addr} {H H':Hp} {ks:List Str} {ts:List br} {fs:List bt} (a:Pth p T H H') (hp:cW H p) (ht:TblOk H T iE) (h:bC C H x ks ts fs):bC C H' x ks ts fs:=by
 obtain⟨_,_,_,e,_⟩:=hp
 refine h.keep (fun o ex=>?_) fun b xs eb=>a.k b _ (fun z=>by rw [z,e] at eb; cases eb) (ht.neT eb) eb
 obtain⟨dx,kt,tt,ft,tv,fv,h1,_⟩:=h
 rw [h1] at ex
 cases ex
 exact a.k x _ (fun z=>by rw [z,e] at h1; cases h1) (fun z=>by obtain⟨ps,e2,_⟩:=ht; rw [z,e2] at h1; cases h1) h1
theorem Pth.book {p T b:Addr} {H H':Hp} {ks:List Str} {ts:List br} {fs:List bt} (a:Pth p T H H') (h:RdV (fun a=>a≠p∧a≠T) H (.ref b) (mV ks ts fs)):RdV (fun a=>a≠p∧a≠T) H' (.ref b) (mV ks ts fs):=h.mono (fun _ z=>z) fun c o z e=>a.k c o z.1 z.2 e
theorem kM {H H':Hp} {T:Addr} {q:Str} (t:TblOk H T q) (s:ay T H H'):∀ {as:List Addr} {rs:List (List Nat)},en H as rs→en H' as rs
 | _,_,.nil=>.nil
 | _,_,.cons e h=>.cons (s _ _ (t.neL e) e) (kM t s h)
theorem jU {T a:Addr} {H0 H:Hp} (s:ay T H0 H) (h:H0 a=none) (o:HO):ay T H0 (upd H a o):=fun b u n e=>by rw [ag (al e h)]; exact s b u n e
theorem yz:due 1 0=[]:=by decide +kernel
theorem yy:due 1 2=[[1],[2]]:=by decide +kernel
theorem t8 {xs:List V} {r:Int} (h0:0≤r) (h1:r<xs.length):∃ v∈xs,atI xs r=some v:=by
 have h:r.toNat<xs.length:=by omega
 exact⟨xs[r.toNat],List.getElem_mem h,eP h0 (by simp [h])⟩
theorem vp {i:Nat} {σ:L2.St} {H:Hp} {Q:VK} {z:Addr} {xs:List V} {v:V} (hσ:σ[i]? = some (some (.ref z))) (ez:H z=some (.lst xs)) (hl:xs.length≤100) (k:∀ c H',H c=none→H' c=some (.lst (xs++[v]))→av H H'→Q (.ref c) H'):tOp xV (pV i) (xC (lz (tC v) rc)) σ H Q:=by
 refine⟨_,hσ,by show 1≤sizeLine; decide,fun a ha=>⟨z,a,xs,[v],rfl,rfl,af ha _ _ _ ez,ac,Nat.le_trans (Nat.add_le_add_right hl 1) (by decide),fun c hc=>?_⟩⟩
 exact k c _ ((af ha _).free hc) ac ((af ha _).trans (af hc _))
theorem sw {H:Hp} {l d t:Addr} {xs:List V} {kvs:List (Key×V)} {ys:List V} (hl:H l=some (.lst xs)) (hd:H d=some (.dK kvs)) (ht:H t=some (.tup ys)):∀ v∈[V.int (-1),.int 17,.bl true,.non,.str "3",.ref l,.ref d,.ref t,.int (10 ^ 40)],Sh H v∧∀ n:Nat,v=.int n→16<n:=fun v hv=>by
 simp only [List.mem_cons,List.not_mem_nil,or_false] at hv
 rcases hv with rfl | rfl | rfl | rfl | rfl | rfl | rfl | rfl | rfl
 ·exact⟨.int _,fun n e=>by have:=V.int.inj e; omega⟩
 ·exact⟨.int _,fun n e=>by have:=V.int.inj e; omega⟩
 ·exact⟨.bl _,fun n e=>by cases e⟩
 ·exact⟨.non,fun n e=>by cases e⟩
 ·exact⟨.str _,fun n e=>by cases e⟩
 ·exact⟨.row (.inl hl),fun n e=>by cases e⟩
 ·exact⟨.dct hd,fun n e=>by cases e⟩
 ·exact⟨.row (.inr ht),fun n e=>by cases e⟩
 ·exact⟨.int _,fun n e=>by have:=V.int.inj e; omega⟩
structure xo (H:Hp) (ks:List Str) (v:V):Prop where
 sh:Sh H v
 ins:∀ xs,rowOf H v=some xs→∀ y∈xs,Sh H y
 bad:¬ oK H ks v
theorem lZ {H:Hp} {ks:List Str} {a:Addr} {xs:List V} (h:H a=some (.lst xs)) (hs:∀ y∈xs,Sh H y) (hb:∀ ns:List Nat,xs=ns.map iV→¬ ci ks ns):xo H ks (.ref a):=
 ⟨.row (.inl h),fun ys e y hy=>hs y (by rw [gf (.inl h)] at e; cases e; exact hy),fun ⟨ns,e,o⟩=>hb ns (by rw [gf (.inl h)] at e; cases e; rfl) o⟩
theorem kP:∀ {ns ms:List Nat},ns.map iV=ms.map iV→ns=ms
 | [],[],_=>rfl
 | [],_::_,e=>by cases e
 | _::_,[],e=>by cases e
 | n::ns,m::ms,e=>by
  rw [List.map_cons,List.map_cons] at e
  injection e with e1 e2
  have : (n:Int)=(m:Int):=V.int.inj e1
  rw [kP e2,show n=m by omega]
theorem iM {H:Hp} {ns:List Nat}:∀ y∈ns.map iV,Sh H y:=fun y hy=>by obtain⟨n,_,rfl⟩:=List.mem_map.mp hy; exact .int _
theorem wC {H:Hp} {ns:List Nat} {v:V} (h:Sh H v):∀ y∈ns.map iV++[v],Sh H y:=fun y hy=>by
 rcases List.mem_append.mp hy with hy | hy
 ·exact iM y hy
 ·rw [List.mem_singleton.mp hy]; exact h
theorem t9 {as ns:List Nat} {v:V} (h:as.map iV++[v]=ns.map iV):∃ n:Nat,v=.int n∧ns=as++[n]:=by
 obtain⟨b,c,rfl,e1,e2⟩:=List.map_eq_append_iff.mp h.symm
 obtain⟨n,t,rfl,e3,e4⟩:=List.map_eq_cons_iff.mp e2
 obtain rfl:=List.map_eq_nil_iff.mp e4
 exact⟨n,e3.symm,by rw [kP e1]⟩
theorem fq {H:Hp} {ks:List Str} {a:Addr} {as:List Nat} {v:V} (h:H a=some (.lst (as.map iV++[v]))) (hv:Sh H v) (hb:∀ n:Nat,v=.int n→n=0∨4<n∨as.length+1≠ks.length):xo H ks (.ref a):=by
 refine lZ h (wC hv) fun ns e o=>?_
 obtain⟨n,rfl,rfl⟩:=t9 e
 have h1:=o.len
 have h2:=o.one n (by simp)
 have h3:=o.four n (by simp)
 rw [List.length_append,List.length_singleton] at h1
 rcases hb n rfl with h | h | h <;> omega
theorem u3 {H:Hp} {ks:List Str} {ms:List Nat} {c1 le c2 c3 c4 d c5 ai:Addr} {zs:List V} (sz:ci ks ms) (k1:1≤ks.length) (e1:H c1=some (.lst (ms.map iV++[.int 1]))) (el:H le=some (.lst (ms.dropLast.map iV))) (e2:H c2=some (.lst (ms.dropLast.map iV++[.int 0]))) (e3:H c3=some (.lst (ms.dropLast.map iV++[.int 5]))) (e4:H c4=some (.lst (ms.dropLast.map iV++[.bl true])))
  (ed:H d=some (.dK [])) (ea:H ai=some (.lst zs)) (e5:H c5=some (.lst (ms.dropLast.map iV++[.ref ai]))):∀ v∈[V.ref c1,.ref le,.ref c2,.ref c3,.ref c4,.non,.int 3,.str "1",.ref d,.ref c5],xo H ks v:=fun v hv=>by
 have hl:=sz.len
 simp only [List.mem_cons,List.not_mem_nil,or_false] at hv
 rcases hv with rfl | rfl | rfl | rfl | rfl | rfl | rfl | rfl | rfl | rfl
 ·exact fq e1 (.int _) fun n _=>.inr (.inr (by omega))
 ·refine lZ el iM fun ns e o=>?_
  obtain rfl:=kP e
  have:=o.len
  rw [List.length_dropLast] at this
  omega
 ·exact fq e2 (.int _) fun n e=>.inl (by have:=V.int.inj e; omega)
 ·exact fq e3 (.int _) fun n e=>.inr (.inl (by have:=V.int.inj e; omega))
 ·exact fq e4 (.bl _) fun n e=>by cases e
 ·exact⟨.non,fun xs e=>(by cases e),fun ⟨ns,e,_⟩=>(by cases e)⟩
 ·exact⟨.int _,fun xs e=>(by cases e),fun ⟨ns,e,_⟩=>(by cases e)⟩
 ·exact⟨.str _,fun xs e=>(by cases e),fun ⟨ns,e,_⟩=>(by cases e)⟩
 ·exact⟨.dct ed,fun xs e=>(by rw [gB ed] at e; cases e),fun ⟨ns,e,_⟩=>(by rw [gB ed] at e; cases e)⟩
 ·exact fq e5 (.row (.inl ea)) fun n e=>by cases e
end Few
namespace Few
open PySem L2
theorem zoi:LD "Signs":=by decide +kernel
theorem zoj:LD "_law_book":=by decide +kernel
theorem zok:LD "_law_due":=by decide +kernel
theorem zol:LS "_law_due":=by decide +kernel
theorem zom:LD "_law_fillings":=by decide +kernel
theorem zon:LD "_law_handed":=by decide +kernel
theorem zoo:LS "_law_handed":=by decide +kernel
theorem zop:LD "_law_less":=by decide +kernel
theorem zoq:LS "_law_less":=by decide +kernel
theorem zor:LD "_law_odd":=by decide +kernel
theorem zos:LS "_law_odd":=by decide +kernel
theorem zot:LD "_law_pot":=by decide +kernel
theorem zou:LD "_law_refused":=by decide +kernel
theorem zov:LD "_law_script":=by decide +kernel
theorem zow:LS "_law_script":=by decide +kernel
theorem zox:LD "_law_sizes":=by decide +kernel
theorem zoy:LD "_law_told":=by decide +kernel
theorem zoz:LS "_law_told":=by decide +kernel
section
variable {P:Program} {w:World} {K:PySem.W.Frag} {mg:Str→Option Value} {base:Heap}
abbrev bz:Stmt:=top 56
theorem zo0:aB ["_law_script","_law_cell_here","_law_pot_here","_law_book_here","_law_signs","_law_total","_law_due","_law_told","_law_row","_law_size_here","_law_handed","_law_odd","_law_less"] ["_law_script"] (ah bz):=⟨rfl,rfl,rfl,by decide +kernel,rfl,by decide +kernel,by decide +kernel⟩
theorem zo1:LN .globalImplicit bz "Signs":=by decide +kernel
theorem zo2:LN .globalImplicit bz "_law_book":=by decide +kernel
theorem zo3:LN .local bz "_law_book_here":=by decide +kernel
theorem zo4:LN .local bz "_law_cell_here":=by decide +kernel
theorem zo5:LN .globalImplicit bz "_law_draw":=by decide +kernel
theorem zo6:LN .local bz "_law_due":=by decide +kernel
theorem zo7:LN .globalImplicit bz "_law_fillings":=by decide +kernel
theorem zo8:LN .local bz "_law_handed":=by decide +kernel
theorem zo9:LN .local bz "_law_less":=by decide +kernel
theorem zpa:LN .local bz "_law_odd":=by decide +kernel
theorem zpb:LN .globalImplicit bz "_law_pot":=by decide +kernel
theorem zpc:LN .cell bz "_law_pot_here":=by decide +kernel
theorem zpd:LN .globalImplicit bz "_law_refused":=by decide +kernel
theorem zpe:LN .local bz "_law_row":=by decide +kernel
theorem zpf:LN .local bz "_law_script":=by decide +kernel
theorem zpg:LN .local bz "_law_signs":=by decide +kernel
theorem zph:LN .local bz "_law_size_here":=by decide +kernel
theorem zpi:LN .globalImplicit bz "_law_sizes":=by decide +kernel
theorem zpj:LN .local bz "_law_told":=by decide +kernel
theorem zpk:LN .local bz "_law_total":=by decide +kernel
theorem zpl:LN .globalImplicit bz "fillings":=by decide +kernel
theorem zpm:LN .globalImplicit bz "isinstance":=by decide +kernel
theorem zpn:LN .globalImplicit bz "len":=by decide +kernel
theorem zpo:LN .globalImplicit bz "list":=by decide +kernel
theorem zpp:LN .globalImplicit bz "sizes_to":=by decide +kernel
theorem zpq:LN .globalImplicit bz "tuple":=by decide +kernel
abbrev vA:Scope:={kind:=PySem.ScopeKind.function,names:=[ (PySem.Str.ofString ".0",PySem.NameKind.local),(PySem.Str.ofString "_law_kind",PySem.NameKind.local),(PySem.Str.ofString "_law_draw",PySem.NameKind.globalImplicit),(PySem.Str.ofString "_law_pot_here",PySem.NameKind.free)],isGenerator:=false,isCoroutine:=false,more:=[]:PySem.Scope}
theorem zpr:cw 1 ["_law_kind","_law_script","_law_cell_here","_law_pot_here","_law_book_here","_law_signs","_law_total","_law_due","_law_told","_law_row","_law_size_here","_law_handed","_law_odd","_law_less"] ["_law_script","_law_cell_here","_law_pot_here","_law_book_here","_law_signs","_law_total","_law_due","_law_told","_law_row","_law_size_here","_law_handed","_law_odd","_law_less"] (ah bz) vA:=⟨rfl,by decide +kernel,by decide +kernel,by decide +kernel,by decide +kernel,rfl,by decide +kernel⟩
theorem zps:LC .globalImplicit vA "_law_draw":=by decide +kernel
theorem zpt:LC .local vA "_law_kind":=by decide +kernel
theorem zpu:LC .free vA "_law_pot_here":=by decide +kernel
def oU (K:PySem.W.Frag) (T:Addr):Sp:=fun vs H Q _=>∃ (a:Addr) (ns:List Int),vs=[.ref a]∧SqL K H a (ns.map V.int)∧ns.length≤63∧H T=some (.tbl #[])∧∀ H',Q (.bl true) H'
theorem wQ {C N TT fI fL:Addr} {fdI fdL:FuncData} (F:Fun K "law" "law" bz fL fdL) (Z:Bl mg) (D_law_pot:Def P w K mg base "_law_pot" 1 ["_law_cell_here"] vN)
  (D_law_draw:Def P w K mg base "_law_draw" 1 ["_law_pot_here","_law_many_here"] kj) (D_law_book:Def P w K mg base "_law_book" 3 ["_law_pot_here","_law_most_kinds","_law_most_signs"] rn)
  (D_law_sizes:Def P w K mg base "_law_sizes" 1 ["_law_many_here","_law_total"] lG) (D_law_fillings:Def P w K mg base "_law_fillings" 4 ["_law_book_here","_law_size_here"] oW) (D_law_refused:Def P w K mg base "_law_refused" 6 ["_law_way","_law_signs","_law_thing"] (jQ C TT))
  (D_sizes_to:fY P w K mg base "sizes_to" 5 ["signs","total"] (iJ C N TT)) (D_fillings:fY P w K mg base "fillings" 5 ["signs","size"] (nj C N))
  (M_Signs:Mk K C fI) (G_Signs:dk P w K mg base CX0 5 fI fdI ["self","kinds","ties","functions"] (rk C)) (m_Signs:mg "Signs"=some (.ref C)) (b_Signs:cH K fdI ["self","kinds","ties","functions"] []) :
  dk P w K mg base CX0 7 fL fdL ["_law_script"] (oU K TT):=by
 have SC:=zo0
 refine F.ok (k:=6) zo0 (fun vs H Q E h=>?_) (fun cdv A outer s H vs Q E hr h=>?_)
 ·obtain⟨a,ns,rfl,_⟩:=h
  rfl
 ·obtain⟨aS,ns,rfl,hS,hns,hT,q⟩:=h
  refine'⟨_,?derivation,?_⟩
  case derivation=>refine' ak ?Aa ?Ba;(case Aa=>refine' cg PassesOwn.never rfl ?Ca ?Da ?Ea ?Fa;(case Ca=>refine' bn ?Ga;case Ga=>refine' lU o8 (pq 0 (ap zpf) zov zow) pe ?Ha;case Ha=>refine' pd ?Ia;case Ia=>exact aq);(case Da=>refine' au (i:=1) (x:=Str.ofString "_law_cell_here") SC.nd rfl (Or.inl zo4) (.inl rfl));(case Ea=>refine' ak ?Ja ?Ka;(case Ja=>refine' bc (i:=2) (x:=Str.ofString "_law_pot_here") ?La ?Ma ?Na ?Oa ?Pa ?Qa;(case La=>exact SC.nd);(case Ma=>exact rfl);(case Na=>exact(Or.inr zpc));(case Oa=>refine' aJ (hdb:=zot) D_law_pot (hr.mono (by decide)) zpb ?Ra rfl rfl;case Ra=>refine' aa (pq 1 (ap zo4) zba zbb) ae ?Sa;case Sa=>rfl);(case Pa=>rfl);case Qa=>exact .inl rfl);case Ka=>refine' ak ?Ta ?Ua;(case Ta=>refine' bc (i:=3) (x:=Str.ofString "_law_book_here") ?Va ?Wa ?Xa ?Ya ?Za ?Ab;(case Va=>exact SC.nd);(case Wa=>exact rfl);(case Xa=>exact(Or.inl zo3));(case Ya=>refine' aJ (hdb:=zoj) D_law_book (hr.mono (by decide)) zo2 ?Bb rfl rfl;case Bb=>refine' aa (pq 2 (d4 zpc) zbl zbm) ?Cb ?Db;(case Cb=>refine' aa ?Eb ?Fb ?Gb;(case Eb=>exact aq);(case Fb=>refine' aa ?Hb ae ?Ib;(case Hb=>exact aq);case Ib=>rfl);case Gb=>rfl);case Db=>rfl);(case Za=>rfl);case Ab=>exact .inl rfl);case Ua=>refine' ak ?Jb ?Kb;(case Jb=>refine' bc (i:=4) (x:=Str.ofString "_law_signs") ?Lb ?Mb ?Nb ?Ob ?Pb ?Qb;(case Lb=>exact SC.nd);(case Mb=>exact rfl);(case Nb=>exact(Or.inl zpg));(case Ob=>refine' kE (hdb:=zoi) M_Signs G_Signs (hr.mono (by decide)) zo1 m_Signs b_Signs .nil ix ?Rb rfl rfl;case Rb=>refine' aa ?Sb ?Tb ?Ub;(case Sb=>refine' cb cB (pq 3 (ap zo3) zkh zki) ?Vb ?Wb;(case Vb=>exact aq);case Wb=>intro _ _;exact rfl);(case Tb=>refine' aa ?Xb ?Yb ?Zb;(case Xb=>refine' cb cB (pq 3 (ap zo3) zkh zki) ?Ac ?Bc;(case Ac=>exact aq);case Bc=>intro _ _;exact rfl);(case Yb=>refine' aa ?Cc ae ?Dc;(case Cc=>refine' cb cB (pq 3 (ap zo3) zkh zki) ?Ec ?Fc;(case Ec=>exact aq);case Fc=>intro _ _;exact rfl);case Dc=>rfl);case Zb=>rfl);case Ub=>rfl);(case Pb=>rfl);case Qb=>exact .inl rfl);case Kb=>refine' ak ?Gc ?Hc;(case Gc=>refine' bc (i:=5) (x:=Str.ofString "_law_total") ?Ic ?Jc ?Kc ?Lc ?Mc ?Nc;(case Ic=>exact SC.nd);(case Jc=>exact rfl);(case Kc=>exact(Or.inl zpk));(case Lc=>refine' aJ (hdb:=zbe) D_law_draw (hr.mono (by decide)) zo5 ?Oc rfl rfl;case Oc=>refine' aa (pq 2 (d4 zpc) zbl zbm) ?Pc ?Qc;(case Pc=>refine' aa ?Rc ae ?Sc;(case Rc=>exact aq);case Sc=>rfl);case Qc=>rfl);(case Mc=>rfl);case Nc=>exact .inl rfl);case Hc=>refine' ak ?Tc ?Uc;(case Tc=>refine' bc (i:=6) (x:=Str.ofString "_law_due") ?Vc ?Wc ?Xc ?Yc ?Zc ?Ad;(case Vc=>exact SC.nd);(case Wc=>exact rfl);(case Xc=>exact(Or.inl zo6));(case Yc=>refine' aJ (hdb:=zox) D_law_sizes (hr.mono (by decide)) zpi ?Bd rfl rfl;case Bd=>refine' aa ?Cd ?Dd ?Ed;(case Cd=>refine' aD (hn:=zbs) (hdb:=zbr) aV zpn Z.n_len cC ?Fd rfl rfl;case Fd=>refine' aa ?Gd ae ?Hd;(case Gd=>refine' cb cB (pq 3 (ap zo3) zkh zki) ?Id ?Jd;(case Id=>exact aq);case Jd=>intro _ _;exact rfl);case Hd=>rfl);(case Dd=>refine' aa (pq 5 (ap zpk) znx zny) ae ?Kd;case Kd=>rfl);case Ed=>rfl);(case Zc=>rfl);case Ad=>exact .inl rfl);case Uc=>refine' ak ?Ld ?Md;(case Ld=>refine' bc (i:=7) (x:=Str.ofString "_law_told") ?Nd ?Od ?Pd ?Qd ?Rd ?Sd;(case Nd=>exact SC.nd);(case Od=>exact rfl);(case Pd=>exact(Or.inl zpj));(case Qd=>refine' eH (hdb:=zm4) D_sizes_to (hr.mono (by decide)) zpp ?Td rfl rfl;case Td=>refine' aa (pq 4 (ap zpg) zmx zmy) ?Ud ?Vd;(case Ud=>refine' aa (pq 5 (ap zpk) znx zny) ae ?Wd;case Wd=>rfl);case Vd=>rfl);(case Rd=>rfl);case Sd=>exact .inl rfl);case Md=>refine' ak ?Xd ?Yd;(case Xd=>refine' cy ?Zd ?Ae bq;(case Zd=>refine' PW.pt ?Be;case Be=>refine' eV ?Ce ?De;(case Ce=>refine' bO (rW hr.units) (pq 7 (ap zpj) zoy zoz) (pq 6 (ap zo6) zok zol) (ck _));case De=>refine' dL ?Ee;case Ee=>refine' cf ?Fe;case Fe=>refine' cA ?Ge ?He;(case Ge=>refine' aD (hn:=zd0) (hdb:=zdz) (fR (T:="list")) zpm Z.n_isinstance bA ?Ie rfl rfl;case Ie=>refine' aa (pq 7 (ap zpj) zoy zoz) ?Je ?Ke;(case Je=>refine' aa ?Le ae ?Me;(case Le=>refine' dS (v:=V.ty "list") (hn:=zbu) (hd:=zbt) zpo Z.n_list ei rfl);case Me=>rfl);case Ke=>rfl);case He=>intro _; rfl);case Ae=>refine' am ?Ne;case Ne=>refine' aO ?Oe;case Oe=>exact gE);case Yd=>refine' ak ?Pe ?Qe;(case Pe=>refine' cg PassesOwn.never rfl ?Re ?Se ?Te ?Ue;(case Re=>refine' bn (pq 7 (ap zpj) zoy zoz));(case Se=>refine' au (i:=8) (x:=Str.ofString "_law_row") SC.nd rfl (Or.inl zpe) (.inl rfl));(case Te=>refine' am ?Ve;case Ve=>refine' cZ ?We rfl;case We=>refine' rP PySem.F.plainAttrs_list PySem.F.slot_list_clear PySem.F.type_list_clear ma (pq 8 (ap zpe) zko zkp) rfl rfl);case Ue=>intro _; rfl);case Qe=>refine' ak ?Xe ?Ye;(case Xe=>refine' cZ ?Ze rfl;case Ze=>refine' rP PySem.F.plainAttrs_list PySem.F.slot_list_clear PySem.F.type_list_clear ma (pq 7 (ap zpj) zoy zoz) rfl rfl);case Ye=>refine' ak ?Af ?Bf;(case Af=>refine' cy ?Cf ?Df bq;(case Cf=>refine' bO (rW hr.units) ?Ef (pq 6 (ap zo6) zok zol) (ck _);case Ef=>refine' eH (hdb:=zm4) D_sizes_to (hr.mono (by decide)) zpp ?Ff rfl rfl;case Ff=>refine' aa (pq 4 (ap zpg) zmx zmy) ?Gf ?Hf;(case Gf=>refine' aa (pq 5 (ap zpk) znx zny) ae ?If;case If=>rfl);case Hf=>rfl);case Df=>refine' am ?Jf;case Jf=>refine' aO ?Kf;case Kf=>exact gE);case Bf=>refine' ak ?Lf ?Mf;(case Lf=>refine' i5 (i:=9) (x:=Str.ofString "_law_size_here") SC.nd ?Nf (Or.inl zph) ?Of gF ?Pf zpr.at ?Qf ?Rf ?Sf ?Tf ?Uf;(case Nf=>exact rfl);(case Of=>exact rfl);(case Pf=>exact rfl);(case Qf=>refine' bn ?Vf;case Vf=>refine' cb cB (pq 3 (ap zo3) zkh zki) ?Wf ?Xf;(case Wf=>exact aq);case Xf=>intro _ _;exact rfl);(case Rf=>intro _ _ _ _ _;refine' au (i:=0) zpr.nd rfl (eL zpt) (.inr (lookup_relabel_local zpt)));(case Sf=>intro _ _ _ _ _;refine' bW gi ?Yf ?Zf;(case Yf=>exact aq);case Zf=>refine' aJ (hdb:=zbe) D_law_draw (hr.mono (by decide)) (glO zps) ?Ag rfl rfl;case Ag=>refine' aa (pq 3 (eZ zpu) zbl zbm) ?Bg ?Cg;(case Bg=>refine' aa ?Dg ae ?Eg;(case Dg=>exact aq);case Eg=>rfl);case Cg=>rfl);(case Tf=>intro _; rfl);case Uf=>exact .inl rfl);case Mf=>refine' ak ?Fg ?Gg;(case Fg=>refine' bc (i:=10) (x:=Str.ofString "_law_handed") ?Hg ?Ig ?Jg ?Kg ?Lg ?Mg;(case Hg=>exact SC.nd);(case Ig=>exact rfl);(case Jg=>exact(Or.inl zo8));(case Kg=>refine' cb cI ?Ng ?Og ?Pg;(case Ng=>refine' aU ?Qg;case Qg=>refine' aa (pq 9 (ap zph) zks zkt) ?Rg ?Sg;(case Rg=>refine' aa ?Tg ae ?Ug;(case Tg=>refine' bR (hn:=zem) (hdb:=zel) ?Vg zpq Z.n_tuple d8 ?Wg rfl rfl;(case Vg=>exact cF);case Wg=>refine' aa (pq 9 (ap zph) zks zkt) ae ?Xg;case Xg=>rfl);case Ug=>rfl);case Sg=>rfl);(case Og=>refine' aJ (hdb:=zbe) D_law_draw (hr.mono (by decide)) zo5 ?Yg rfl rfl;case Yg=>refine' aa (pq 2 (d4 zpc) zbl zbm) ?Zg ?Ah;(case Zg=>refine' aa ?Bh ae ?Ch;(case Bh=>exact aq);case Ch=>rfl);case Ah=>rfl);case Pg=>intro _ _;exact rfl);(case Lg=>rfl);case Mg=>exact .inl rfl);case Gg=>refine' ak ?Dh ?Eh;(case Dh=>refine' cy ?Fh ?Gh bq;(case Fh=>refine' bO lX ?Hh ?Ih (ck _);(case Hh=>refine' eH (hdb:=zm3) D_fillings (hr.mono (by decide)) zpl ?Jh rfl rfl;case Jh=>refine' aa (pq 4 (ap zpg) zmx zmy) ?Kh ?Lh;(case Kh=>refine' aa (pq 10 (ap zo8) zon zoo) ae ?Mh;case Mh=>rfl);case Lh=>rfl);case Ih=>refine' aJ (hdb:=zom) D_law_fillings (hr.mono (by decide)) zo7 ?Nh rfl rfl;case Nh=>refine' aa (pq 3 (ap zo3) zkh zki) ?Oh ?Ph;(case Oh=>refine' aa (pq 9 (ap zph) zks zkt) ae ?Qh;case Qh=>rfl);case Ph=>rfl);case Gh=>refine' am ?Rh;case Rh=>refine' aO ?Sh;case Sh=>exact gE);case Eh=>refine' ak ?Th ?Uh;(case Th=>refine' bc (i:=11) (x:=Str.ofString "_law_odd") ?Vh ?Wh ?Xh ?Yh ?Zh ?Ai;(case Vh=>exact SC.nd);(case Wh=>exact rfl);(case Xh=>exact(Or.inl zpa));(case Yh=>refine' aU ?Bi;case Bi=>refine' aa ?Ci ?Di ?Ei;(case Ci=>refine' vU qV ?Fi;case Fi=>exact aq);(case Di=>refine' aa ?Gi ?Hi ?Ii;(case Gi=>exact aq);(case Hi=>refine' aa ?Ji ?Ki ?Li;(case Ji=>exact gE);(case Ki=>refine' aa ?Mi ?Ni ?Oi;(case Mi=>exact rN);(case Ni=>refine' aa ?Pi ?Qi ?Ri;(case Pi=>exact gh);(case Qi=>refine' aa ?Si ?Ti ?Ui;(case Si=>refine' aU ?Vi;case Vi=>refine' aa ?Wi ae ?Xi;(case Wi=>exact aq);case Xi=>rfl);(case Ti=>refine' aa ?Yi ?Zi ?Aj;(case Yi=>exact lV);(case Zi=>refine' aa ?Bj ?Cj ?Dj;(case Bj=>refine' cj ae);(case Cj=>refine' aa ?Ej ae ?Fj;(case Ej=>refine' bW rS ?Gj ?Hj;(case Gj=>exact aq);case Hj=>exact aq);case Fj=>rfl);case Dj=>rfl);case Aj=>rfl);case Ui=>rfl);case Ri=>rfl);case Oi=>rfl);case Li=>rfl);case Ii=>rfl);case Ei=>rfl);(case Zh=>rfl);case Ai=>exact .inl rfl);case Uh=>refine' ak ?Ij ?Jj;(case Ij=>refine' cy ?Kj ?Lj bq;(case Kj=>refine' cf ?Mj;case Mj=>refine' cA ?Nj ?Oj;(case Nj=>refine' aJ (hdb:=zou) D_law_refused (hr.mono (by decide)) zpd ?Pj rfl rfl;case Pj=>refine' aa ?Qj ?Rj ?Sj;(case Qj=>exact aq);(case Rj=>refine' aa (pq 4 (ap zpg) zmx zmy) ?Tj ?Uj;(case Tj=>refine' aa ?Vj ae ?Wj;(case Vj=>refine' cb cI (pq 11 (ap zpa) zor zos) ?Xj ?Yj;(case Xj=>refine' aJ (hdb:=zbe) D_law_draw (hr.mono (by decide)) zo5 ?Zj rfl rfl;case Zj=>refine' aa (pq 2 (d4 zpc) zbl zbm) ?Ak ?Bk;(case Ak=>refine' aa ?Ck ae ?Dk;(case Ck=>exact aq);case Dk=>rfl);case Bk=>rfl);case Yj=>intro _ _;exact rfl);case Wj=>rfl);case Uj=>rfl);case Sj=>rfl);case Oj=>intro _; rfl);case Lj=>refine' am ?Ek;case Ek=>refine' aO ?Fk;case Fk=>exact gE);case Jj=>refine' ak ?Gk ?Hk;(case Gk=>refine' bc (i:=12) (x:=Str.ofString "_law_less") ?Ik ?Jk ?Kk ?Lk ?Mk ?Nk;(case Ik=>exact SC.nd);(case Jk=>exact rfl);(case Kk=>exact(Or.inl zo9));(case Lk=>refine' lU o8 (pq 9 (ap zph) zks zkt) pe ?Ok;case Ok=>refine' pd ?Pk;case Pk=>refine' vU qV ?Qk;case Qk=>exact aq);(case Mk=>rfl);case Nk=>exact .inl rfl);case Hk=>refine' ak ?Rk ?Sk;(case Rk=>refine' bc (i:=11) (x:=Str.ofString "_law_odd") ?Tk ?Uk ?Vk ?Wk ?Xk ?Yk;(case Tk=>exact SC.nd);(case Uk=>exact rfl);(case Vk=>exact(Or.inl zpa));(case Wk=>refine' aU ?Zk;case Zk=>refine' aa ?Al ?Bl ?Cl;(case Al=>refine' bW fo (pq 9 (ap zph) zks zkt) ?Dl;case Dl=>refine' aU ?El;case El=>refine' aa ?Fl ae ?Gl;(case Fl=>exact aq);case Gl=>rfl);(case Bl=>refine' aa (pq 12 (ap zo9) zop zoq) ?Hl ?Il;(case Hl=>refine' aa ?Jl ?Kl ?Ll;(case Jl=>refine' bW fo (pq 12 (ap zo9) zop zoq) ?Ml;case Ml=>refine' aU ?Nl;case Nl=>refine' aa ?Ol ae ?Pl;(case Ol=>exact aq);case Pl=>rfl);(case Kl=>refine' aa ?Ql ?Rl ?Sl;(case Ql=>refine' bW fo (pq 12 (ap zo9) zop zoq) ?Tl;case Tl=>refine' aU ?Ul;case Ul=>refine' aa ?Vl ae ?Wl;(case Vl=>exact aq);case Wl=>rfl);(case Rl=>refine' aa ?Xl ?Yl ?Zl;(case Xl=>refine' bW fo (pq 12 (ap zo9) zop zoq) ?Am;case Am=>refine' aU ?Bm;case Bm=>refine' aa ?Cm ae ?Dm;(case Cm=>exact gE);case Dm=>rfl);(case Yl=>refine' aa ?Em ?Fm ?Gm;(case Em=>exact rN);(case Fm=>refine' aa ?Hm ?Im ?Jm;(case Hm=>exact aq);(case Im=>refine' aa ?Km ?Lm ?Mm;(case Km=>exact gh);(case Lm=>refine' aa ?Nm ?Om ?Pm;(case Nm=>exact lV);(case Om=>refine' aa ?Qm ae ?Rm;(case Qm=>refine' bW fo (pq 12 (ap zo9) zop zoq) ?Sm;case Sm=>refine' aU ?Tm;case Tm=>refine' aa ?Um ae ?Vm;(case Um=>refine' aU ?Wm;case Wm=>refine' aa ?Xm ae ?Ym;(case Xm=>exact aq);case Ym=>rfl);case Vm=>rfl);case Rm=>rfl);case Pm=>rfl);case Mm=>rfl);case Jm=>rfl);case Gm=>rfl);case Zl=>rfl);case Sl=>rfl);case Ll=>rfl);case Il=>rfl);case Cl=>rfl);(case Xk=>rfl);case Yk=>exact .inl rfl);case Sk=>refine' am ?Zm;case Zm=>refine' cy ?An ?Bn bq;(case An=>refine' cf ?Cn;case Cn=>refine' cA ?Dn ?En;(case Dn=>refine' aJ (hdb:=zou) D_law_refused (hr.mono (by decide)) zpd ?Fn rfl rfl;case Fn=>refine' aa ?Gn ?Hn ?In;(case Gn=>exact aq);(case Hn=>refine' aa (pq 4 (ap zpg) zmx zmy) ?Jn ?Kn;(case Jn=>refine' aa ?Ln ae ?Mn;(case Ln=>refine' cb cI (pq 11 (ap zpa) zor zos) ?Nn ?On;(case Nn=>refine' aJ (hdb:=zbe) D_law_draw (hr.mono (by decide)) zo5 ?Pn rfl rfl;case Pn=>refine' aa (pq 2 (d4 zpc) zbl zbm) ?Qn ?Rn;(case Qn=>refine' aa ?Sn ae ?Tn;(case Sn=>exact aq);case Tn=>rfl);case Rn=>rfl);case On=>intro _ _;exact rfl);case Mn=>rfl);case Kn=>rfl);case In=>rfl);case En=>intro _; rfl);case Bn=>refine' am ?Un;case Un=>refine' aO ?Vn;case Vn=>exact gE);case Fa=>intro _; rfl);case Ba=>refine' ak ?Wn ?Xn;(case Wn=>refine' bc (i:=4) (x:=Str.ofString "_law_signs") ?Yn ?Zn ?Ao ?Bo ?Co ?Do;(case Yn=>exact SC.nd);(case Zn=>exact rfl);(case Ao=>exact(Or.inl zpg));(case Bo=>refine' kE (hdb:=zoi) M_Signs G_Signs (hr.mono (by decide)) zo1 m_Signs b_Signs .nil ix ?Eo rfl rfl;case Eo=>refine' aa ?Fo ?Go ?Ho;(case Fo=>refine' aU ?Io;case Io=>refine' aa ?Jo ae ?Ko;(case Jo=>exact gh);case Ko=>rfl);(case Go=>refine' aa ?Lo ?Mo ?No;(case Lo=>refine' aU ae);(case Mo=>refine' aa ?Oo ae ?Po;(case Oo=>refine' aU ae);case Po=>rfl);case No=>rfl);case Ho=>rfl);(case Co=>rfl);case Do=>exact .inl rfl);case Xn=>refine' am ?Qo;case Qo=>refine' aO ?Ro;case Ro=>refine' jc ?So ?To;(case So=>refine' iN (rY hr.units) ?Uo ?Vo (ck _);(case Uo=>refine' eH (hdb:=zm4) D_sizes_to (hr.mono (by decide)) zpp ?Wo rfl rfl;case Wo=>refine' aa (pq 4 (ap zpg) zmx zmy) ?Xo ?Yo;(case Xo=>refine' aa ?Zo ae ?Ap;(case Zo=>exact aq);case Ap=>rfl);case Yo=>rfl);case Vo=>refine' aU ae);case To=>refine' jc ?Bp ?Cp;(case Bp=>refine' iN (rY hr.units) ?Dp ?Ep (ck _);(case Dp=>refine' eH (hdb:=zm4) D_sizes_to (hr.mono (by decide)) zpp ?Fp rfl rfl;case Fp=>refine' aa (pq 4 (ap zpg) zmx zmy) ?Gp ?Hp;(case Gp=>refine' aa ?Ip ae ?Jp;(case Ip=>exact aq);case Jp=>rfl);case Hp=>rfl);case Ep=>refine' aU ?Kp;case Kp=>refine' aa ?Lp ?Mp ?Np;(case Lp=>refine' aU ?Op;case Op=>refine' aa ?Pp ae ?Qp;(case Pp=>exact aq);case Qp=>rfl);(case Mp=>refine' aa ?Rp ae ?Sp;(case Rp=>refine' aU ?Tp;case Tp=>refine' aa ?Up ae ?Vp;(case Up=>exact aq);case Vp=>rfl);case Sp=>rfl);case Np=>rfl);case Cp=>refine' nJ ?Wp;case Wp=>refine' iN pv ?Xp ?Yp (ck _);(case Xp=>refine' eH (hdb:=zm3) D_fillings (hr.mono (by decide)) zpl ?Zp rfl rfl;case Zp=>refine' aa (pq 4 (ap zpg) zmx zmy) ?Aq ?Bq;(case Aq=>refine' aa ?Cq ae ?Dq;(case Cq=>refine' aU ?Eq;case Eq=>refine' aa ?Fq ae ?Gq;(case Fq=>exact aq);case Gq=>rfl);case Dq=>rfl);case Bq=>rfl);case Yp=>exact aq
  have one:1≤sizeLine:=by decide
  have zero:0≤sizeLine:=by decide
  have tb0:TblOk H TT iE:=⟨#[],hT,trivial,fun p v z=>by cases z⟩
  refine⟨_,rfl,_,rfl,aS,_,rfl,hS,fun L hL=>⟨L,rfl,⟨_,SqL.of ac⟩,?_⟩⟩
  have allI:∀ y∈cutV (ns.map V.int) none (some 12),∃ z,y=V.int z:=fun y hy=>by
   obtain⟨z,_,rfl⟩:=List.mem_map.mp (u6 hy)
   exact⟨z,rfl⟩
  have tbL:=tb0.same (af hL (.lst (cutV (ns.map V.int) none (some 12))))
  have hLx:(upd H L (.lst (cutV (ns.map V.int) none (some 12)))) L=some (.lst (cutV (ns.map V.int) none (some 12))):=ac
  generalize (upd H L (.lst (cutV (ns.map V.int) none (some 12))))=HL at tbL hLx
  generalize cutV (ns.map V.int) none (some 12)=xs at hLx allI
  refine bM (K:=K) (a:=L) (xs:=xs) (fun i σ H2=>(∃ w1 w2 w3 w4 w5 w6 w7 w8 w9 w10 w11 w12,σ=[some (.ref aS),w1,w2,w3,w4,w5,w6,w7,w8,w9,w10,w11,w12])∧H2 L=some (.lst xs)∧TblOk H2 TT iE)
   ⟨⟨_,_,_,_,_,_,_,_,_,_,_,_,rfl⟩,hLx,tbL⟩ (fun i σ H2 _ ⟨_,z,_⟩=>SqL.of z) ?_ ?_
  ·rintro i y σ H2 hi ⟨⟨w1,w2,w3,w4,w5,w6,w7,w8,w9,w10,w11,w12,rfl⟩,hL2,tb2⟩
   obtain⟨n,rfl⟩:=allI y (List.mem_of_getElem? hi)
   have nLT:=tb2.neL hL2
   refine⟨_,rfl,n,rfl,fun p H3 hp pot3 s3=>?_⟩
   have nLp:L≠p:=al hL2 hp
   have tb3:=tb2.same s3
   have hL3:=s3 _ _ hL2
   refine⟨_,rfl,p,4,8,rfl,pot3,by decide,by decide,by decide,fun bv H4 ks ts fs rb ok _ _ W4=>?_⟩
   have A4:Pth p TT H3 H4:=(Pth.refl pot3 tb3).draw W4.pot W4.same
   have rb4:RdV (fun a=>a≠p∧a≠TT) H4 bv (mV ks ts fs):=rb.mono (fun a z=>⟨(Pth.refl pot3 tb3).nP z,tb3.neN z⟩) fun _ _ _ e=>e
   obtain⟨b,_,rfl,_,_,_⟩:=id (RdV.tuple_inv rb4)
   obtain⟨kA,tA,fA,tv,fv,b1,k1,t1,t2,f1,f2⟩:=eS.open (ku rb4)
   refine⟨_,rfl,b,_,_,_,rfl,rfl,SqT.of b1,rfl,_,rfl,b,_,_,_,rfl,rfl,SqT.of b1,rfl,_,rfl,b,_,_,_,rfl,rfl,SqT.of b1,rfl,fun x dx hx hd nd=>?_⟩
   have s6:=gX (CB:=C) hx hd nd
   obtain⟨ab,rfl,sab⟩:=jO (t2.same s6)
   obtain⟨cd,rfl,scd⟩:=j0 (f2.same s6)
   refine⟨x,dx,kA,tA,fA,ab,cd,ks,ts,fs,rfl,ac,.inl (s6 _ _ k1),.inl (s6 _ _ t1),sab,.inl (s6 _ _ f1),scd,ok,fun H7 g7 x7=>⟨rfl,?_⟩⟩
   have s57:=gY hx s6 x7
   have A7:=A4.same s57
   have rb7:=RdV.same s57 rb4
   refine⟨_,rfl,p,17,rfl,A7.pot,by decide,by decide,fun r H8 r0 r1 p8 s8=>?_⟩
   have A8:=A7.draw p8 s8
   have D78:Pth p TT H7 H8:=(Pth.refl A7.pot A7.tb).draw p8 s8
   have g8:=D78.signs A7.pot A7.tb g7
   have rb8:=D78.book rb7
   obtain⟨t,rfl⟩:∃ t:Nat,r=t:=⟨r.toNat,by omega⟩
   obtain⟨kB,tB,fB,tw,fw,b2,k2,_⟩:=eS.open (ku rb8)
   refine⟨_,rfl,b,_,_,_,rfl,rfl,SqT.of b2,rfl,kB,_,rfl,.inl (SqL.of k2),_,rfl,ks.length,t,by rw [List.length_map]; rfl,ok.k4,by omega,fun Dd ad H9 _ ed ld s9=>?_⟩
   have A9:=A8.same s9
   refine⟨_,rfl,_,rfl,x,.int t,ks,ts,fs,rfl,g8.same s9,ok.k4,.int _,A9.tb,fun t' et _ D as H10 hD has eD ls sX tb10=>?_,fun h=>absurd (h t rfl) (by omega)⟩
   obtain rfl:t=t':=by have:=V.int.inj et; omega
   have A10:=A9.tab sX tb10
   have ed10:=sX _ _ (A9.tb.neL ed) ed
   have ld10:=kM A9.tb sX ld
   refine⟨_,rfl,_,rfl,eQ eD ed10 ls ld10 ⟨false,rfl,?_⟩⟩
   refine eX ?_
   refine⟨_,rfl,_,_,true,rfl,.lst eD,rfl,true,rfl,eX ?_⟩
   have asD:∀ a∈as,a≠D:=fun a ha z=>by
    obtain⟨i,hi⟩:=List.getElem?_of_mem ha
    obtain⟨r',_,e⟩:=Paired.at ls hi
    rw [z,eD] at e
    match as,r',ha,e with
    | _::_,[],_,e=>cases e
    | _::_,_::_,_,e=>cases e
   refine⟨_,rfl,D,rfl,⟨_,SqL.of eD⟩,bM (K:=K) (a:=D) (xs:=as.map V.ref) (fun i σ G=>(∃ w8',σ=[some (.ref aS),some (.int n),some (.ref p),some (.ref b),some (.ref x),some (.int t),some (.ref Dd),some (.ref D),w8',w9,w10,w11,w12])∧ay TT H9 G∧TblOk G TT iE∧G D=some (.lst (as.map V.ref))∧∀ a∈as,∃ zs,G a=some (.lst zs))
    ⟨⟨_,rfl⟩,sX,tb10,eD,fun a ha=>?_⟩ (fun i σ G _ ⟨_,_,_,z,_⟩=>SqL.of z) ?_ ?_⟩
   ·obtain⟨i,hi⟩:=List.getElem?_of_mem ha
    obtain⟨r',_,e⟩:=Paired.at ls hi
    exact⟨_,e⟩
   ·rintro j y σ G hj ⟨⟨w8',rfl⟩,sG,tG,eG,aG⟩
    rw [List.getElem?_map] at hj
    obtain⟨ra,hra,rfl⟩:=Option.map_eq_some_iff.mp hj
    have hm:=List.mem_of_getElem? hra
    obtain⟨zs,ez⟩:=aG ra hm
    refine⟨_,rfl,.inl ⟨rfl,_,SqL.of ez⟩,ra,zs,rfl,rfl,ez,⟨_,rfl⟩,jU sG (has ra hm) _,tG.went ez (ay.upd _ _ _),by rw [ag (Ne.symm (asD ra hm))]; exact eG,fun a ha=>?_⟩
    by_cases h:a=ra
    ·exact⟨[],by rw [h]; exact ac⟩
    ·obtain⟨zs',e'⟩:=aG a ha
     exact⟨zs',by rw [ag h]; exact e'⟩
   rintro σ G ⟨⟨w8',rfl⟩,sG,tG,eG,aG⟩
   refine⟨_,rfl,.inl ⟨rfl,_,SqL.of eG⟩,D,_,rfl,rfl,eG,?_⟩
   have sH:=jU sG hD (.lst [])
   have tH:TblOk (upd G D (.lst [])) TT iE:=tG.went eG (ay.upd _ _ _)
   generalize upd G D (.lst [])=H11 at sH tH
   have A11:=A9.tab sH tH
   have D11:Pth p TT H8 H11:=((Pth.refl A8.pot A8.tb).same s9).tab sH tH
   have g11:=D11.signs A8.pot A8.tb g8
   have rb11:=D11.book rb8
   have ed11:=sH _ _ (A9.tb.neL ed) ed
   have ld11:=kM A9.tb sH ld
   clear sG tG eG aG sX tb10 A10 ed10 ld10 ls eD hD has asD
   refine⟨_,rfl,_,rfl,x,.int t,ks,ts,fs,rfl,g11,ok.k4,.int _,tH,fun t' et _ D as H12 hD has eD ls sX tb12=>?_,fun h=>absurd (h t rfl) (by omega)⟩
   obtain rfl:t=t':=by have:=V.int.inj et; omega
   have A12:=A11.tab sX tb12
   have D12:Pth p TT H11 H12:=(Pth.refl A11.pot tH).tab sX tb12
   have g12:=D12.signs A11.pot tH g11
   have rb12:=D12.book rb11
   refine⟨_,rfl,eQ eD (sX _ _ (tH.neL ed11) ed11) ls (kM tH sX ld11) ⟨false,rfl,eX ?_⟩⟩
   clear ed11 ld11 g11 rb11 D11 D12 sX eD ls sH tH A11 hD has
   obtain⟨_,bx,e0,nb,hb1,hbx⟩:=id (RdV.tuple_inv rb12)
   cases e0
   obtain⟨kv,tv',fv',rfl,hk1,_,_⟩:=hbx.three
   obtain⟨kC,kx,rfl,nk,hk2,hk3⟩:=hk1.list_inv
   obtain rfl:=hk3.strs_inv
   refine⟨_,rfl,b,_,_,_,rfl,rfl,SqT.of hb1,rfl,kC,rfl,⟨_,SqL.of hk2⟩,?_⟩
   intro cl C1 ex s0 Hc
   refine df ks.length (fun i ys G=>∃ ms:List Nat,ys=ms.map iV∧Pth p TT H12 G∧(∀ n∈ms,1≤n)∧∀ n∈ms,n≤4) (fun i x=>True) ⟨[],rfl,.refl A12.pot A12.tb,(fun _ z=>nomatch z),(fun _ z=>nomatch z)⟩ (Nat.le_trans ok.k4 (by decide))
    (fun i ys G hi _ ⟨_,_,y,_⟩=>⟨(dU (K:=K) (SqL.of (y.k _ _ nk.1 nk.2 hk2)) (by rw [List.length_map]; exact hi)).1,fun x H' z=>⟨((dU (K:=K) (SqL.of (y.k _ _ nk.1 nk.2 hk2)) (by rw [List.length_map]; exact hi)).2 x H' z).1,trivial⟩⟩) (fun ys G _ ⟨_,_,y,_⟩=>by have:=cQ (K:=K) (SqL.of (K:=K) (y.k _ _ nk.1 nk.2 hk2)); rw [List.length_map] at this; exact this) ?_ ?_
   ·rintro i x ys G hi _ hy ⟨ms,rfl,W,n1,n4⟩
    refine⟨_,rfl,p,4,rfl,W.pot,by decide,by decide,fun r G2 r0 r1 p6 s6=>?_⟩
    refine⟨1,r,rfl,rfl,ms++[(1+r).toNat],?_,W.draw p6 s6,?_,?_⟩
    ·rw [List.map_append]
     show _=_++[V.int ((1+r).toNat:Int)]
     rw [Int.toNat_of_nonneg (by omega)]
    ·intro n hn
     rcases List.mem_append.mp hn with hn | hn
     ·exact n1 n hn
     ·rw [List.mem_singleton.mp hn]; omega
    ·intro n hn
     rcases List.mem_append.mp hn with hn | hn
     ·exact n4 n hn
     ·rw [List.mem_singleton.mp hn]; omega
   rintro ys H13 hy ⟨ms,rfl,B13,n1,n4⟩ z hz
   have sz:ci ks ms:=⟨by simpa using hy,n1,n4⟩
   have s14:=af hz (.lst (ms.map iV))
   have B14:=B13.same s14
   have ez:(upd H13 z (.lst (ms.map iV))) z=some (.lst (ms.map iV)):=ac
   have nzp:=B13.nP hz
   have nzt:=B13.tb.neN hz
   generalize (upd H13 z (.lst (ms.map iV)))=H14 at s14 B14 ez
   refine⟨_,rfl,_,rfl,z,ms.map iV,rfl,.inl ⟨SqL.of ez,fun tz htz=>?_⟩⟩
   have s15:=af htz (.tup (ms.map iV))
   have B15:=B14.same s15
   have ntz:=B14.nP htz
   have etz:(upd H14 tz (.tup (ms.map iV))) tz=some (.tup (ms.map iV)):=ac
   have ez15:=s15 _ _ ez
   generalize (upd H14 tz (.tup (ms.map iV)))=H15 at s15 B15 etz ez15
   refine⟨by show 2≤sizeLine; decide,fun L2 hL2=>?_⟩
   have s16:=af hL2 (.lst [.ref z,.ref tz])
   have B16:=B15.same s16
   have nL2:=B15.nP hL2
   have eL2:(upd H15 L2 (.lst [.ref z,.ref tz])) L2=some (.lst [.ref z,.ref tz]):=ac
   have etz16:=s16 _ _ etz
   have ez16:=s16 _ _ ez15
   generalize (upd H15 L2 (.lst [.ref z,.ref tz]))=H16 at s16 B16 eL2 etz16 ez16
   refine⟨_,rfl,p,2,rfl,B16.pot,by decide,by decide,fun r HA r0 r1 pA sA=>?_⟩
   have BA:=B16.draw pA sA
   have LA:=sA L2 _ nL2 eL2
   have tzA:=sA tz _ ntz etz16
   have zA:=sA z _ nzp ez16
   have gA:=BA.signs A12.pot A12.tb g12
   have rbA:=BA.book rb12
   obtain⟨h1,eh,lh⟩:∃ h1,atI [V.ref z,V.ref tz] r=some (.ref h1)∧LT HA h1 (ms.map iV):=by
    have : r=0∨r=1:=by omega
    rcases this with rfl | rfl
    ·exact⟨z,rfl,.inl zA⟩
    ·exact⟨tz,rfl,.inr tzA⟩
   refine⟨L2,_,r,_,rfl,rfl,SqL.of LA,eh,?_⟩
   clear s14 s15 s16 B15 B16 etz etz16 ez15 ez16 ez eL2 LA tzA B14 ntz nL2
   have rowA:rowOf HA (.ref h1)=some (ms.map iV):=gf lh
   refine⟨_,rfl,_,rfl,x,.ref h1,ks,ts,fs,rfl,gA,ok,.row lh,fun xs e=>by rw [rowA] at e; cases e; exact iM,fun ns e _ HB sB=>?_,fun bad=>absurd ⟨ms,rowA,sz⟩ bad⟩
   rw [rowA] at e
   obtain rfl:=kP (Option.some.inj e)
   have BB:=BA.same sB
   refine⟨_,rfl,_,rfl,b,z,ks,ts,fs,ms,rfl,ku (RdV.same sB rbA),ok,sB _ _ zA,sz,fun HC sC=>⟨rfl,_,rfl,ifF (by simp) ?_⟩⟩
   have BC:=BB.same sC
   have zC:=sC _ _ (sB _ _ zA)
   have gC:=(gA.same sB).same sC
   clear sB sC BB zA rbA gA rowA lh eh BA
   refine⟨1,rfl,one,fun l3 hl3=>?_⟩
   have s1:=af hl3 (.lst [.int 3])
   have e1:(upd HC l3 (.lst [.int 3])) l3=some (.lst [.int 3]):=ac
   have np1:=BC.nP hl3
   have C1:=BC.same s1
   have S1:=s1
   generalize (upd HC l3 (.lst [.int 3]))=G1 at s1 e1 C1 S1
   refine fun d0 hd0=>?_
   have s2:=af hd0 (.dK [])
   have e2:(upd G1 d0 (.dK [])) d0=some (.dK []):=ac
   have np2:=C1.nP hd0
   have C2:=C1.same s2
   have S2:=S1.trans s2
   replace e1:=s2 _ _ e1
   generalize (upd G1 d0 (.dK []))=G2 at s2 e1 e2 C2 S2
   refine⟨zero,fun t0 ht0=>?_⟩
   have s3:=af ht0 (.tup [])
   have e3:(upd G2 t0 (.tup [])) t0=some (.tup []):=ac
   have np3:=C2.nP ht0
   have C3:=C2.same s3
   have S3:=S2.trans s3
   replace e1:=s3 _ _ e1
   replace e2:=s3 _ _ e2
   generalize (upd G2 t0 (.tup []))=G3 at s3 e1 e2 e3 C3 S3
   refine⟨10,40,rfl,rfl,⟨by decide,by decide,by decide⟩,by show 9≤sizeLine; decide,fun lo hlo=>?_⟩
   have s4:=af hlo (.lst [V.int (-1),.int 17,.bl true,.non,.str "3",.ref l3,.ref d0,.ref t0,.int (10 ^ 40)])
   have e4:(upd G3 lo (.lst [V.int (-1),.int 17,.bl true,.non,.str "3",.ref l3,.ref d0,.ref t0,.int (10 ^ 40)])) lo=some (.lst [V.int (-1),.int 17,.bl true,.non,.str "3",.ref l3,.ref d0,.ref t0,.int (10 ^ 40)]):=ac
   have np4:=C3.nP hlo
   have C4:=C3.same s4
   have S4:=S3.trans s4
   replace e1:=s4 _ _ e1
   replace e2:=s4 _ _ e2
   replace e3:=s4 _ _ e3
   change wk _ _ _ _ (upd G3 lo (.lst [V.int (-1),.int 17,.bl true,.non,.str "3",.ref l3,.ref d0,.ref t0,.int (10 ^ 40)]))
   generalize (upd G3 lo (.lst [V.int (-1),.int 17,.bl true,.non,.str "3",.ref l3,.ref d0,.ref t0,.int (10 ^ 40)]))=G4 at s4 e1 e2 e3 e4 C4 S4
   have gG4:=gC.same S4
   have zG4:=S4 _ _ zC
   clear s1 s2 s3 s4 S1 S2 S3 S4 C1 C2 C3 hl3 hd0 ht0 hlo
   refine⟨_,rfl,_,rfl,_,rfl,p,9,rfl,C4.pot,by decide,by decide,fun r9 G5 q0 q1 pG sG=>?_⟩
   have C5:=C4.draw pG sG
   have D45:Pth p TT G4 G5:=(Pth.refl C4.pot C4.tb).draw pG sG
   obtain⟨v9,m9,a9⟩:=t8 (xs:=[V.int (-1),.int 17,.bl true,.non,.str "3",.ref l3,.ref d0,.ref t0,.int (10 ^ 40)]) q0 q1
   obtain⟨sh9,no9⟩:=sw (sG _ _ np1 e1) (sG _ _ np2 e2) (sG _ _ np3 e3) v9 m9
   have gG5:=D45.signs C4.pot C4.tb gG4
   have zG5:=sG _ _ nzp zG4
   refine⟨lo,_,r9,v9,rfl,rfl,SqL.of (sG _ _ np4 e4),a9,0,x,v9,ks,ts,fs,rfl,gG5,ok,ok.k4,sh9,C5.tb,fun _=>no9,fun h=>absurd rfl h,fun G6 s6=>⟨true,rfl,eX ?_⟩⟩
   have C6:=C5.same s6
   have gG6:=gG5.same s6
   have zG6:=s6 _ _ zG5
   clear D45 C5 C4 gG5 zG5 gG4 zG4 e1 e2 e3 e4 np1 np2 np3 np4 sG pG sh9 no9 a9 m9 s6
   have ml:∀ k:Nat,k≤4→k≤100:=fun k h=>by omega
   have msl:(ms.map iV).length≤100:=by rw [List.length_map,sz.len]; exact ml _ ok.k4
   have mdl:(ms.dropLast.map iV).length≤100:=by rw [List.length_map,List.length_dropLast,sz.len]; exact ml _ (Nat.le_trans (Nat.sub_le _ _) ok.k4)
   refine⟨_,rfl,1,rfl,_,rfl,z,_,rfl,SqL.of zG6,fun le hle=>?_⟩
   rw [tV]
   have s1:=af hle (.lst (ms.dropLast.map iV))
   have el:(upd G6 le (.lst (ms.dropLast.map iV))) le=some (.lst (ms.dropLast.map iV)):=ac
   have npl:=C6.nP hle
   generalize (upd G6 le (.lst (ms.dropLast.map iV)))=F1 at s1 el
   have X1:=C6.same s1
   refine vp (z:=z) rfl (s1 _ _ zG6) msl fun c1 F2 hc1 ec1 s2=>?_
   have np1:=X1.nP hc1
   have X2:=X1.same s2
   have S2:=s1.trans s2
   replace el:=s2 _ _ el
   refine⟨_,rfl,?_⟩
   refine vp (z:=le) rfl el mdl fun c2 F3 hc2 ec2 s3=>?_
   have np2:=X2.nP hc2
   have X3:=X2.same s3
   have S3:=S2.trans s3
   replace el:=s3 _ _ el
   replace ec1:=s3 _ _ ec1
   refine vp (z:=le) rfl el mdl fun c3 F4 hc3 ec3 s4=>?_
   have np3:=X3.nP hc3
   have X4:=X3.same s4
   have S4:=S3.trans s4
   replace el:=s4 _ _ el
   replace ec1:=s4 _ _ ec1
   replace ec2:=s4 _ _ ec2
   refine vp (z:=le) rfl el mdl fun c4 F5 hc4 ec4 s5=>?_
   have np4:=X4.nP hc4
   have X5:=X4.same s5
   have S5:=S4.trans s5
   replace el:=s5 _ _ el
   replace ec1:=s5 _ _ ec1
   replace ec2:=s5 _ _ ec2
   replace ec3:=s5 _ _ ec3
   refine fun dd hdd=>?_
   have s6:=af hdd (.dK [])
   have ed:(upd F5 dd (.dK [])) dd=some (.dK []):=ac
   generalize (upd F5 dd (.dK []))=F6 at s6 ed
   have np5:=X5.nP hdd
   have X6:=X5.same s6
   refine⟨_,rfl,one,fun ai hai=>?_⟩
   have s7:=af hai (.lst [.int 1])
   have ea:(upd F6 ai (.lst [.int 1])) ai=some (.lst [.int 1]):=ac
   generalize (upd F6 ai (.lst [.int 1]))=F7 at s7 ea
   have np6:=X6.nP hai
   have X7:=X6.same s7
   have S7:=(S5.trans s6).trans s7
   have s67:=s6.trans s7
   replace el:=s67 _ _ el
   replace ec1:=s67 _ _ ec1
   replace ec2:=s67 _ _ ec2
   replace ec3:=s67 _ _ ec3
   replace ec4:=s67 _ _ ec4
   replace ed:=s7 _ _ ed
   refine⟨one,fun ao hao=>⟨le,ao,_,[.ref ai],rfl,rfl,af hao _ _ _ el,ac,Nat.le_trans (Nat.add_le_add_right mdl 1) (by decide),fun c5 hc5=>?_⟩⟩
   have s8:av F7 (upd (upd F7 ao (.lst [.ref ai])) c5 (.lst (ms.dropLast.map iV++[.ref ai]))):=(af hao _).trans (af hc5 _)
   have ec5:(upd (upd F7 ao (.lst [.ref ai])) c5 (.lst (ms.dropLast.map iV++[.ref ai]))) c5=some (.lst (ms.dropLast.map iV++[.ref ai])):=ac
   have np7:=X7.nP ((af hao (.lst [.ref ai])).free hc5)
   generalize (upd (upd F7 ao (.lst [.ref ai])) c5 (.lst (ms.dropLast.map iV++[.ref ai])))=F8 at s8 ec5
   have X8:=X7.same s8
   have S8:=S7.trans s8
   refine⟨by show 10≤sizeLine; decide,fun lp hlp=>?_⟩
   have s9:=af hlp (.lst [V.ref c1,.ref le,.ref c2,.ref c3,.ref c4,.non,.int 3,.str "1",.ref dd,.ref c5])
   have e9:(upd F8 lp (.lst [V.ref c1,.ref le,.ref c2,.ref c3,.ref c4,.non,.int 3,.str "1",.ref dd,.ref c5])) lp=some (.lst [V.ref c1,.ref le,.ref c2,.ref c3,.ref c4,.non,.int 3,.str "1",.ref dd,.ref c5]):=ac
   generalize (upd F8 lp (.lst [V.ref c1,.ref le,.ref c2,.ref c3,.ref c4,.non,.int 3,.str "1",.ref dd,.ref c5]))=F9 at s9 e9
   have np9:=X8.nP hlp
   have X9:=X8.same s9
   have s89:=s8.trans s9
   have g9:=gG6.same (S7.trans s89)
   replace el:=s89 _ _ el
   replace ec1:=s89 _ _ ec1
   replace ec2:=s89 _ _ ec2
   replace ec3:=s89 _ _ ec3
   replace ec4:=s89 _ _ ec4
   replace ec5:=s9 _ _ ec5
   replace ed:=s89 _ _ ed
   replace ea:=s89 _ _ ea
   refine⟨_,rfl,_,rfl,_,rfl,p,10,rfl,X9.pot,by decide,by decide,fun ra FA q0 q1 pG sG=>?_⟩
   have XA:=X9.draw pG sG
   have D9A:Pth p TT F9 FA:=(Pth.refl X9.pot X9.tb).draw pG sG
   obtain⟨vo,mo,ao⟩:=t8 (xs:=[V.ref c1,.ref le,.ref c2,.ref c3,.ref c4,.non,.int 3,.str "1",.ref dd,.ref c5]) q0 q1
   have N:=u3 sz ok.k1 (sG _ _ np1 ec1) (sG _ _ npl el) (sG _ _ np2 ec2) (sG _ _ np3 ec3) (sG _ _ np4 ec4) (sG _ _ np5 ed) (sG _ _ np6 ea) (sG _ _ np7 ec5) vo mo
   have gA:=D9A.signs X9.pot X9.tb g9
   refine⟨lp,_,ra,vo,rfl,rfl,SqL.of (sG _ _ np9 e9),ao,1,x,vo,ks,ts,fs,rfl,gA,ok,ok.k4,N.sh,XA.tb,fun h=>absurd h (by decide),fun _=>⟨N.ins,N.bad⟩,fun FB sB=>⟨true,rfl,eX ?_⟩⟩
   exact⟨⟨_,_,_,_,_,_,_,_,_,_,_,_,rfl⟩,sB _ _ (XA.k _ _ nLp nLT (A12.k _ _ nLp nLT hL3)),XA.tb.same sB⟩
  ·rintro σ H2 ⟨⟨w1,w2,w3,w4,w5,w6,w7,w8,w9,w10,w11,w12,rfl⟩,hL2,tb2⟩
   refine⟨one,fun l1 hl1=>⟨zero,fun l2 hl2=>⟨zero,fun l3 hl3=>?_⟩⟩⟩
   have s1:=af hl1 (.lst [.str "a"])
   have s2:=af hl2 (.lst [])
   have s3:=af hl3 (.lst [])
   have e1:=s3 _ _ (s2 _ _ (ac (H:=H2) (a:=l1) (o:=.lst [.str "a"])))
   have e2:=s3 _ _ (ac (H:=upd H2 l1 (.lst [.str "a"])) (a:=l2) (o:=.lst []))
   have e3:=ac (H:=upd (upd H2 l1 (.lst [.str "a"])) l2 (.lst [])) (a:=l3) (o:=.lst [])
   have s03:=(s1.trans s2).trans s3
   generalize (upd (upd (upd H2 l1 (.lst [.str "a"])) l2 (.lst [])) l3 (.lst []))=H3 at s03 e1 e2 e3
   refine fun x0 dx0 hx0 hd0 nd0=>?_
   have s4:=gX (CB:=C) hx0 hd0 nd0
   refine⟨x0,dx0,l1,l2,l3,[],[],["a"],[],[],rfl,ac,.inl (s4 _ _ e1),.inl (s4 _ _ e2),.nil,.inl (s4 _ _ e3),.nil,mI,fun H5 g5 x5=>⟨rfl,?_⟩⟩
   have tb5:=tb2.same (s03.trans (gY hx0 s4 x5))
   clear s1 s2 s3 e1 e2 e3 s03 s4 x5
   refine⟨_,rfl,x0,.int 0,["a"],[],[],rfl,g5,by decide,.int _,tb5,fun t' et _ D as H6 hD has eD ls sX tb6=>?_,fun h=>absurd (h 0 rfl) (by decide)⟩
   obtain rfl:t'=0:=by have:=V.int.inj et; omega
   rw [show due [("a":Str)].length 0=[] from yz] at ls
   have g6:bC C H6 x0 [("a":Str)] [] []:=g5.keep (fun o e=>sX _ _ (fun z=>by
    obtain⟨_,_,_,_,_,_,e',_⟩:=g5
    obtain⟨_,z',_⟩:=tb5
    rw [z,z'] at e'; cases e') e) fun b ys e=>sX _ _ (tb5.neT e) e
   refine⟨zero,fun la hla=>eQ (us:=[]) (nm:=[]) (af hla _ _ _ eD) ac (by cases ls; exact .nil) .nil ⟨true,rfl,oh ?_⟩⟩
   have s7:=af hla (.lst [])
   have g7:=g6.same s7
   have tb7:=tb6.same s7
   generalize (upd H6 la (.lst []))=H7 at s7 g7 tb7
   clear ls eD has hD sX et
   refine⟨_,rfl,x0,.int 2,["a"],[],[],rfl,g7,by decide,.int _,tb7,fun t' et _ D as H8 hD has eD ls sX tb8=>?_,fun h=>absurd (h 2 rfl) (by decide)⟩
   obtain rfl:t'=2:=by have:=V.int.inj et; omega
   rw [show due [("a":Str)].length 2=[[1],[2]] from yy] at ls
   have g8:bC C H8 x0 [("a":Str)] [] []:=g7.keep (fun o e=>sX _ _ (fun z=>by
    obtain⟨_,_,_,_,_,_,e',_⟩:=g7
    obtain⟨_,z',_⟩:=tb7
    rw [z,z'] at e'; cases e') e) fun b ys e=>sX _ _ (tb7.neT e) e
   refine⟨one,fun a1 ha1=>⟨one,fun a2 ha2=>⟨by show 2≤sizeLine; decide,fun a3 ha3=>?_⟩⟩⟩
   have s1:=af ha1 (.lst [.int 1])
   have s2:=af ha2 (.lst [.int 2])
   have s3:=af ha3 (.lst [.ref a1,.ref a2])
   have s13:=(s1.trans s2).trans s3
   have f1:=s3 _ _ (s2 _ _ (ac (H:=H8) (a:=a1) (o:=.lst [.int 1])))
   have f2:=s3 _ _ (ac (H:=upd H8 a1 (.lst [.int 1])) (a:=a2) (o:=.lst [.int 2]))
   have f3:=ac (H:=upd (upd H8 a1 (.lst [.int 1])) a2 (.lst [.int 2])) (a:=a3) (o:=.lst [.ref a1,.ref a2])
   generalize (upd (upd (upd H8 a1 (.lst [.int 1])) a2 (.lst [.int 2])) a3 (.lst [.ref a1,.ref a2]))=H9 at s13 f1 f2 f3
   refine eQ (us:=[a1,a2]) (s13 _ _ eD) f3 (Paired.mapP ls fun _ _ e=>s13 _ _ e) (.cons f1 (.cons f2 .nil)) ⟨true,rfl,oh ?_⟩
   have g9:=g8.same s13
   refine⟨_,rfl,one,fun z0 hz0=>?_⟩
   have sz:=af hz0 (.lst [.int 4])
   have ez:(upd H9 z0 (.lst [.int 4])) z0=some (.lst [.int 4]):=ac
   have rw0:rowOf (upd H9 z0 (.lst [.int 4])) (.ref z0)=some ([4].map iV):=gf (.inl ez)
   refine⟨x0,.ref z0,["a"],[],[],rfl,g9.same sz,mI,.row (.inl ez),fun xs e=>by rw [rw0] at e; cases e; exact iM,fun ns e _ HB sB=>⟨rfl,?_⟩,fun bad=>absurd ⟨[4],rw0,⟨rfl,by simp,by simp⟩⟩ bad⟩
   exact q HB
end
end Few
set_option maxHeartbeats 4000000
namespace L2
open PySem PySem.Spec PyProof.Rows
theorem walk_ofU {l:PySem.W.OpenLaw} {n k:Nat} {q:Program} {loose:List Str} {XP:(Str→Option Value)→Heap→Prop} {YP:World→Heap→Prop} {d:DefRec} {K:Params→PySem.W.Frag} {CX:World→CXT} {sp:World→Sp} {x y:Str} {cc TT:World→Addr}
  (hn:l.most=some n) (hn2:n≤sizeLine) (hdf:d.params.defaults=[]) (hr:bN k callerA) (hq:importsNone q=true) (hrec:((recsOf q).find? (fun e=>e.name==y)).isSome=true)
  (hY:∀ (w:World) (h:Heap),YP w h→(K w.params).In h) (hnt:∀ w:World,PySem.W.noTabs (K w.params)=true) (htb:∀ w:World,PySem.W.tabIn (K w.params) y=some (cc w,TT w))
  (F:∀ (w:World) (mg:Str→Option Value) (fa:Addr) (h:Heap),(K w.params).In h→h.Ns mainGlobals mg→mg d.name=some (.ref fa)→
   ∃ fd:FuncData,(∀ (s:Shared) (u:Value),BindsTo s fd ⟨[u],[]⟩ [(x,u)])∧
    ∀ base:Heap,(K w.params).In base→base.Ns mainGlobals mg→base.BuiltinsAt mg (TT w)→dk l.prog w (K w.params) mg base (CX w) k fa fd [x] (sp w))
  (hsp:∀ (w:World) (H:Hp) (a:Addr) (ns:List Int),ns.length≤n→H (TT w)=some (.tbl #[])→SqL (K w.params) H a (ns.map V.int)→sp w [.ref a] H (fun v _=>v=.bl true) fun _ _ _=>False)
  (hCX:∀ (w:World) (H:Hp) (s:Shared) (e:Value) (s':Shared),CX w [] H s (fun _ _ _=>False) e s'→False) :
  PySem.W.WalkO q loose XP YP l.row.toRowW d [] (fun f vs=>PySem.call f vs):=by
 refine Att.attach_call hn hdf fun w s₀ s₁ mg mb fa o pm cd doc a vs ns G Y ho hd hcd hmg hobj hints hlen hg=>?_
 have KX:=hY w _ Y
 obtain⟨fd,hb,hF⟩:=F w mg fa _ KX G.T.g hmg
 obtain⟨d2,hrec⟩:=Option.isSome_iff_exists.mp hrec
 obtain⟨hCH,hT⟩:=PySem.W.tab_of G.T KX hrec (htb w)
 exact qo KX G.T.g G.T.b G.T.builtins G.T.nolimit (let ⟨mm,x,_⟩:=(G.T.seer hq).mods; ⟨mm,x⟩) hg hobj hints (Nat.le_trans hlen hn2) hr hT (hCH.tab hT).isCodeTable (hnt w) G.T.bmain hF hb (fun H h1 hS=>hsp w H a ns hlen h1 hS) fun H e s'=>hCX w H s₁ e s'
end L2
namespace FewE
open PySem L2 Few
theorem vh {K:PySem.W.Frag} {mg:Str→Option Value} {x:Str} {C:Addr} (hb:mg x=some (.ref C)) (q:PySem.W.excIn K C sF "ValueError.__new__"=true):ll K mg x C:=by
 intro h X
 refine⟨hb,?_⟩
 unfold PySem.W.excIn at q
 split at q
 ·rename_i dd cd sl ho
  split at q
  ·rename_i C' bm k0 k1 k2 k3 n k5 hm hs
   simp only [Bool.and_eq_true,beq_iff_eq,Bool.not_eq_true'] at q
   obtain⟨⟨⟨⟨⟨rfl,rfl⟩,hdel⟩,ht⟩,hok⟩,hni⟩:=q
   obtain⟨nm,bs,mro,ns,qn,hd,sn,sub,ab,col,del⟩:=cd
   dsimp only at hm hdel hok hni
   subst hm hdel
   have hsl:sl=#[k0,k1,k2,k3,some (.builtin "ValueError.__new__"),k5]:=by
    obtain⟨l⟩:=sl
    simp only at hs
    rw [hs]
   subst hsl
   exact⟨bm,ns,nm,qn,bs,hd,sn,sub,ab,col,dd,k0,k1,k2,k3,k5,_,X _ _ ho,.of_isNs (PySem.W.isNs_of_in X hok),PySem.W.nsMap_none_of_in X hok hni,PySem.W.tail_of_in X ht⟩
  ·cases q
 ·cases q
theorem funAt_mk {K:PySem.W.Frag} {h:Heap} {mg:Str→Option Value} {x:Str} {st:Stmt} {ps:List Str} {f:Addr} {oc kV dc pm cd ct:Value} {od an:Option Addr} {sl:Array (Option Value)} (X:K.In h) (G:h.Ns mainGlobals mg)
  (a:PySem.W.nsIn K mainGlobals x=some (some (.ref f))) (l:K.lookup f=some ⟨oc,od,.func (PySem.W.fnOf x x (de st) (b7 st) (ah st) .none kV dc pm an cd ct),sl⟩) (c:PySem.W.codeIn K cd x=true) (k:PySem.W.keepIn K (.ref f)=true)
  (b:∀ (kV doc pm:Value) (an:Option Addr) (cdv ct:Value) (us:List Value),us.length=ps.length→bindArgs (PySem.W.fnOf x x (de st) (b7 st) (ah st) .none kV doc pm an cdv ct) ⟨us,[]⟩=pure (ps.zip us)):aL K mg x st ps:=
 ⟨f,_,hZ l c k,PySem.W.mg_of X G a,(hZ (st:=st) l c k).binds b⟩
def ik (K:PySem.W.Frag) (C:Addr) (x q:Str) (st:Stmt) (ps:List Str):Prop:=∃ (f:Addr) (fd:FuncData),Fun K x q st f fd∧cH K fd ps []∧PySem.W.findIn K (.ref C) x=some (some (.ref f))∧PySem.W.isFn K (.ref f)=true∧PySem.W.keepIn K (.ref f)=true
theorem methAt_mk {K:PySem.W.Frag} {x q:Str} {st:Stmt} {ps:List Str} {C f:Addr} {oc kV dc pm cd ct:Value} {od an:Option Addr} {sl:Array (Option Value)}
  (a:PySem.W.findIn K (.ref C) x=some (some (.ref f))) (i:PySem.W.isFn K (.ref f)=true) (l:K.lookup f=some ⟨oc,od,.func (PySem.W.fnOf x q (de st) (b7 st) (ah st) .none kV dc pm an cd ct),sl⟩) (c:PySem.W.codeIn K cd q=true) (k:PySem.W.keepIn K (.ref f)=true)
  (b:∀ (kV doc pm:Value) (an:Option Addr) (cdv ct:Value) (us:List Value),us.length=ps.length→bindArgs (PySem.W.fnOf x q (de st) (b7 st) (ah st) .none kV doc pm an cdv ct) ⟨us,[]⟩=pure (ps.zip us)):ik K C x q st ps:=
 ⟨f,_,hZ l c k,(hZ (st:=st) l c k).binds b,a,i,k⟩
theorem lu1 {α:Type} {l:List α} (h:l.length=1):∃ a,l=[a]:=by
 match l,h with
 | [a],_=>exact⟨a,rfl⟩
theorem lu2 {α:Type} {l:List α} (h:l.length=2):∃ a b,l=[a,b]:=by
 match l,h with
 | [a,b],_=>exact⟨a,b,rfl⟩
theorem lu3 {α:Type} {l:List α} (h:l.length=3):∃ a b c,l=[a,b,c]:=by
 match l,h with
 | [a,b,c],_=>exact⟨a,b,c,rfl⟩
theorem lu4 {α:Type} {l:List α} (h:l.length=4):∃ a b c d,l=[a,b,c,d]:=by
 match l,h with
 | [a,b,c,d],_=>exact⟨a,b,c,d,rfl⟩
theorem tab_mk {K:PySem.W.Frag} {x:Str} {f c P:Addr} {oc cc:Value} {od cdd:Option Addr} {fd:FuncData} {sl csl:Array (Option Value)} {vs:Array Value} (a:PySem.W.nsIn K mainGlobals x=some (some (.ref f))) (l:K.lookup f=some ⟨oc,od,.func fd,sl⟩) (hc:fd.code=.ref c) (lc:K.lookup c=some ⟨cc,cdd,.fields vs,csl⟩) (h:vs[11]? = some (.ref P)):PySem.W.tabIn K x=some (c,P):=by
 unfold PySem.W.tabIn
 simp only [a,l,hc,lc,h]
theorem all_mk {l:PySem.W.OpenLaw} {w:World} {K:PySem.W.Frag} {h:Heap} {mg:Str→Option Value} {fa C CB N fe x1 x2 x3 x4 x5 x6 x7 x8 wa cc TT:Addr} {fdd:Option Addr} {fcd cdN:ClassData} {fsl:Array (Option Value)} {f26:Addr} {oc26 kV26 dc26 pm26 ct26:Value} {od26 an26:Option Addr} {sl26:Array (Option Value)} {f27:Addr} {oc27 kV27 dc27 pm27 ct27 cd27:Value} {od27 an27:Option Addr} {sl27:Array (Option Value)} {tL:Tok} {tI0:Tok} {tI1:Tok} {tI2:Tok} {tI3:Tok} {tI4:Tok} {tI5:Tok} {tI6:Tok} {tw0 tw1 tw2 tw3 tw4:Tok} {wd:Option Addr} {wn:Nat} {ws:Array (Option Value)} (X:K.In h) (G:h.Ns mainGlobals mg) (hfa:mg "law"=some (.ref fa))
  (F0:aL K mg "_law_pot" dX ["_law_cell_here"])
  (F1:aL K mg "_law_draw" cM ["_law_pot_here","_law_many_here"])
  (F2:aL K mg "_law_unlike" bH ["_law_pot_here","_law_many_here","_law_menu"])
  (F3:aL K mg "_law_book" aR ["_law_pot_here","_law_most_kinds","_law_most_signs"])
  (F4:aL K mg "_law_many" dv ["_law_book_here","_law_size_here","_law_kind"])
  (F5:aL K mg "_law_rows" bw ["_law_book_here","_law_size_here","_law_places"])
  (F6:aL K mg "_law_cells" bV ["_law_book_here","_law_size_here"])
  (F7:aL K mg "_law_values" bj ["_law_book_here","_law_size_here","_law_name"])
  (F8:aL K mg "_law_fillings" aX ["_law_book_here","_law_size_here"])
  (F9:aL K mg "_law_flags" aQ ["_law_e"])
  (F10:aL K mg "_law_refused" aZ ["_law_way","_law_signs","_law_thing"])
  (F11:aL K mg "_law_sizes" be ["_law_many_here","_law_total"])
  (F12:aL K mg "is_list" cU ["thing"])
  (F13:aL K mg "is_name" cp ["thing"])
  (F14:aL K mg "is_whole" cN ["thing"])
  (F15:aL K mg "check_apart" cr ["names"])
  (F16:aL K mg "checked_kinds" aP ["kinds"])
  (F17:aL K mg "checked_kind" ce ["kinds","kind"])
  (F18:aL K mg "checked_places" ba ["kinds","places"])
  (F19:aL K mg "checked_sign_name" bo ["name"])
  (F20:aL K mg "checked_tie" bg ["kinds","tie"])
  (F21:aL K mg "checked_function" aA ["kinds","function"])
  (F22:aL K mg "checked_size" aY ["signs","size"])
  (F23:aL K mg "rows_of" du ["many_things","places"])
  (F24:aL K mg "fillings_of" cq ["board"])
  (F25:aL K mg "fillings" cO ["signs","size"])
  (a26:PySem.W.nsIn K mainGlobals "sizes_to"=some (some (.ref f26)))
  (l26:K.lookup f26=some ⟨oc26,od26,.func (PySem.W.fnOf "sizes_to" "sizes_to" (de aW) (b7 aW) (ah aW) .none kV26 dc26 pm26 an26 (.ref cc) ct26),sl26⟩)
  (c26:PySem.W.codeIn K (.ref cc) "sizes_to"=true)
  (k26:PySem.W.keepIn K (.ref f26)=true)
  (hC:PySem.W.codeHdIn K cc TT=true)
  (a27:PySem.W.nsIn K mainGlobals "law"=some (some (.ref f27)))
  (l27:K.lookup f27=some ⟨oc27,od27,.func (PySem.W.fnOf "law" "law" (de bz) (b7 bz) (ah bz) .none kV27 dc27 pm27 an27 cd27 ct27),sl27⟩)
  (c27:PySem.W.codeIn K cd27 "law"=true)
  (k27:PySem.W.keepIn K (.ref f27)=true)
  (aC:PySem.W.nsIn K mainGlobals "Signs"=some (some (.ref C)))
  (aCB:PySem.W.nsIn K mainGlobals "Board"=some (some (.ref CB)))
  (M28:ik K C "__init__" "Signs.__init__" bp ["self","kinds","ties","functions"])
  (M29:ik K C "kinds" "Signs.kinds" gw ["self"])
  (M30:ik K C "ties" "Signs.ties" i0 ["self"])
  (M31:ik K C "functions" "Signs.functions" dI ["self"])
  (M32:ik K CB "__init__" "Board.__init__" aE ["self","signs","size"])
  (pg:PySem.W.plainGet K C Str.empty=true)
  (hd:PySem.W.hasDictIn K C=true)
  (po:PySem.W.plainOver K C=true)
  (sa:PySem.W.findIn K (.ref C) "__setattr__"=some (some (.builtin "object.__setattr__")))
  (mk:PySem.W.makesIn K C=true)
  (kc:PySem.W.keepIn K (.ref C)=true)
  (n0:PySem.W.findIn K (.ref C) "kept_kinds"=some none)
  (n1:PySem.W.findIn K (.ref C) "kept_ties"=some none)
  (n2:PySem.W.findIn K (.ref C) "kept_functions"=some none)
  (pgB:PySem.W.plainGet K CB Str.empty=true)
  (hdB:PySem.W.hasDictIn K CB=true)
  (poB:PySem.W.plainOver K CB=true)
  (saB:PySem.W.findIn K (.ref CB) "__setattr__"=some (some (.builtin "object.__setattr__")))
  (mkB:PySem.W.makesIn K CB=true)
  (kcB:PySem.W.keepIn K (.ref CB)=true)
  (n0B:PySem.W.findIn K (.ref CB) "many_things"=some none)
  (n1B:PySem.W.findIn K (.ref CB) "many_values"=some none)
  (aF:PySem.W.nsIn K mainGlobals "FewError"=some (some (.ref fe)))
  (aN:PySem.W.nsIn K mainGlobals "NoSize"=some (some (.ref N)))
  (aX1:PySem.W.nsIn K mainGlobals "NoNaming"=some (some (.ref x1)))
  (aX2:PySem.W.nsIn K mainGlobals "NoPart"=some (some (.ref x2)))
  (aX3:PySem.W.nsIn K mainGlobals "NoRow"=some (some (.ref x3)))
  (aX4:PySem.W.nsIn K mainGlobals "NoSaying"=some (some (.ref x4)))
  (aX5:PySem.W.nsIn K mainGlobals "NoSigns"=some (some (.ref x5)))
  (aX6:PySem.W.nsIn K mainGlobals "NoText"=some (some (.ref x6)))
  (aX7:PySem.W.nsIn K mainGlobals "NoWorld"=some (some (.ref x7)))
  (aX8:PySem.W.nsIn K mainGlobals "TooMany"=some (some (.ref x8)))
  (xF:K.lookup fe=some ⟨.type "type",fdd,.cls fcd,fsl⟩)
  (bF:PySem.W.mroIn K fe (.type "BaseException")=some true)
  (xN:PySem.W.excIn K N sF "ValueError.__new__"=true)
  (yga:PySem.W.findIn K (.ref N) "__getattribute__"=some (some (.builtin "BaseException.__getattribute__")))
  (ygn:PySem.W.findIn K (.ref N) "__getattr__"=some none)
  (ycl:PySem.W.findIn K (.ref N) "__class__"=some (some (.builtin "object.__class__")))
  (ymb:PySem.W.mroIn K N (.type "BaseException")=some true)
  (ymo:PySem.W.mroIn K N (.type "object")=some true)
  (yty:PySem.W.clsIn K N=some cdN)
  (yve:PySem.W.kitOne K (.ref N) (.type "ValueError")=some true)
  (yot:PySem.W.kitAny K (.ref N) [.ref x1,.ref x2,.ref x3,.ref x4,.ref x5,.ref x6,.ref x7,.ref x8]=some false)
  (ykN:PySem.W.kitOne K (.ref N) (.ref N)=some true)
  (yup:PySem.W.mroIn K N (.ref fe)=some true)
  (z_len:PySem.W.nsIn K mainGlobals "len"=some none)
  (z_max:PySem.W.nsIn K mainGlobals "max"=some none)
  (z_abs:PySem.W.nsIn K mainGlobals "abs"=some none)
  (z_divmod:PySem.W.nsIn K mainGlobals "divmod"=some none)
  (z_list:PySem.W.nsIn K mainGlobals "list"=some none)
  (z_tuple:PySem.W.nsIn K mainGlobals "tuple"=some none)
  (z_range:PySem.W.nsIn K mainGlobals "range"=some none)
  (z_int:PySem.W.nsIn K mainGlobals "int"=some none)
  (z_str:PySem.W.nsIn K mainGlobals "str"=some none)
  (z_repr:PySem.W.nsIn K mainGlobals "repr"=some none)
  (z_isinstance:PySem.W.nsIn K mainGlobals "isinstance"=some none)
  (z_all:PySem.W.nsIn K mainGlobals "all"=some none)
  (z_set:PySem.W.nsIn K mainGlobals "set"=some none)
  (z_dict:PySem.W.nsIn K mainGlobals "dict"=some none)
  (z_zip:PySem.W.nsIn K mainGlobals "zip"=some none)
  (z_bool:PySem.W.nsIn K mainGlobals "bool"=some none)
  (z_sum:PySem.W.nsIn K mainGlobals "sum"=some none)
  (z_sorted:PySem.W.nsIn K mainGlobals "sorted"=some none)
  (z_ValueError:PySem.W.nsIn K mainGlobals "ValueError"=some none)
  (gL:PySem.W.nsIn K mainGlobals "LETTERS"=some (some (.str (Str.ofString "abcdefghijklmnopqrstuvwxyz") tL)))
  (gI0:PySem.W.nsIn K mainGlobals "LONGEST_NAME"=some (some (.int 12 tI0)))
  (gI1:PySem.W.nsIn K mainGlobals "MOST_KINDS"=some (some (.int 4 tI1)))
  (gI2:PySem.W.nsIn K mainGlobals "MOST_SIGNS"=some (some (.int 8 tI2)))
  (gI3:PySem.W.nsIn K mainGlobals "MOST_PLACES"=some (some (.int 2 tI3)))
  (gI4:PySem.W.nsIn K mainGlobals "MOST_THINGS"=some (some (.int 4 tI4)))
  (gI5:PySem.W.nsIn K mainGlobals "VALUES_OF_TIES"=some (some (.int 2 tI5)))
  (gI6:PySem.W.nsIn K mainGlobals "GREATEST_TOTAL"=some (some (.int 16 tI6)))
  (gW:PySem.W.nsIn K mainGlobals "WORDS_OF_SAYINGS"=some (some (.ref wa)))
  (lW:K.lookup wa=some ⟨.type "tuple",wd,.seq #[.str (Str.ofString "all") tw0,.str (Str.ofString "some") tw1,.str (Str.ofString "not") tw2,.str (Str.ofString "and") tw3,.str (Str.ofString "or") tw4] wn,ws⟩)
  : ∃ fd:FuncData,(∀ (s:Shared) (v:Value),BindsTo s fd ⟨[v],[]⟩ [("_law_script",v)])∧∀ base:Heap,K.In base→base.Ns mainGlobals mg→base.BuiltinsAt mg TT→dk l.prog w K mg base CX0 7 fa fd ["_law_script"] (oU K TT):=by
 have T:ClS K C:=⟨⟨pg,hd,po,sa⟩,n0,n1,n2⟩
 have TB:ClB K CB:=⟨⟨pgB,hdB,poB,saB⟩,n0B,n1B⟩
 have Z:Bl mg:=⟨PySem.W.mg_none_of X G z_len,PySem.W.mg_none_of X G z_max,PySem.W.mg_none_of X G z_abs,PySem.W.mg_none_of X G z_divmod,PySem.W.mg_none_of X G z_list,PySem.W.mg_none_of X G z_tuple,PySem.W.mg_none_of X G z_range,PySem.W.mg_none_of X G z_int,PySem.W.mg_none_of X G z_str,PySem.W.mg_none_of X G z_repr,PySem.W.mg_none_of X G z_isinstance,PySem.W.mg_none_of X G z_all,PySem.W.mg_none_of X G z_set⟩
 have Gg:Gs K mg:=⟨⟨_,PySem.W.mg_of X G gL,tL,rfl⟩,⟨_,PySem.W.mg_of X G gI0,tI0,rfl⟩,⟨_,PySem.W.mg_of X G gI1,tI1,rfl⟩,⟨_,PySem.W.mg_of X G gI2,tI2,rfl⟩,⟨_,PySem.W.mg_of X G gI3,tI3,rfl⟩,wa,PySem.W.mg_of X G gW,fun H=>.inr ⟨_,_,_,lW,rfl,rfl,by show 5≤sizeLine; decide,.cons ⟨tw0,rfl⟩ (.cons ⟨tw1,rfl⟩ (.cons ⟨tw2,rfl⟩ (.cons ⟨tw3,rfl⟩ (.cons ⟨tw4,rfl⟩ (.nil)))))⟩⟩
 have GT:∃ u,mg "MOST_THINGS"=some u∧aM (.int 4) u:=⟨_,PySem.W.mg_of X G gI4,tI4,rfl⟩
 have GV:∃ u,mg "VALUES_OF_TIES"=some u∧aM (.int 2) u:=⟨_,PySem.W.mg_of X G gI5,tI5,rfl⟩
 have GG:∃ u,mg "GREATEST_TOTAL"=some u∧aM (.int 16) u:=⟨_,PySem.W.mg_of X G gI6,tI6,rfl⟩
 obtain⟨f28,fd28,F28,b28,a28,i28,k28⟩:=M28
 obtain⟨f29,fd29,F29,b29,a29,i29,k29⟩:=M29
 obtain⟨f30,fd30,F30,b30,a30,i30,k30⟩:=M30
 obtain⟨f31,fd31,F31,b31,a31,i31,k31⟩:=M31
 obtain⟨f32,fd32,F32,b32,a32,i32,k32⟩:=M32
 have FL:=hZ (st:=bz) l27 c27 k27
 have FS:=hZ (st:=aW) l26 c26 k26
 have bS:=FS.binds (ps:=["signs","total"]) (fun _ _ _ _ _ _ us hl=>by obtain⟨_,_,rfl⟩:=FewE.lu2 hl; rfl)
 have e:=hfa.symm.trans (PySem.W.mg_of X G a27)
 cases e
 have TN:Xs K N fe [x1,x2,x3,x4,x5,x6,x7,x8]:=⟨⟨yga,ygn,ycl,ymb,ymo,by rw [yty]; rfl⟩,yve,ykN,yot,yup⟩
 have ON:=vh (PySem.W.mg_of X G aN) xN
 refine⟨PySem.W.fnOf "law" "law" (de bz) (b7 bz) (ah bz) .none kV27 dc27 pm27 an27 cd27 ct27,fun s v=>.of_eq rfl,fun base bK bG bB=>?_⟩
 have dPot:=wP (P:=l.prog) (w:=w) (base:=base) F0 Z
 have dDraw:=uW (P:=l.prog) (w:=w) (base:=base) F1 Z
 have dUnlike:=qg (P:=l.prog) (w:=w) (base:=base) F2 Z dDraw
 have dBook:=uX (P:=l.prog) (w:=w) (base:=base) F3 Z dDraw dUnlike
 have dIl:=nY (P:=l.prog) (w:=w) (base:=base) F12 Z
 have dIn:=nX (P:=l.prog) (w:=w) (base:=base) F13 Z Gg
 have dCa:=su (P:=l.prog) (w:=w) (base:=base) F15 Z
 have dKs:=so (P:=l.prog) (w:=w) (base:=base) F16 Z Gg dIl dIn dCa
 have dK:=uS (P:=l.prog) (w:=w) (base:=base) F17 Z dIn
 have dPl:=qh (P:=l.prog) (w:=w) (base:=base) F18 Z Gg dIl dK
 have dSn:=kK (P:=l.prog) (w:=w) (base:=base) F19 Z Gg dIn
 have dTie:=wO (P:=l.prog) (w:=w) (base:=base) F20 Z dIl dSn dPl
 have dFu:=uU (P:=l.prog) (w:=w) (base:=base) F21 Z dIl dSn dPl dK
 have dIni:=uT (P:=l.prog) (w:=w) (base:=base) F28 Z Gg T dIl dKs dTie dFu dCa
 have dTk:=sd (P:=l.prog) (w:=w) (base:=base) F29 Z T
 have dTt:=rZ (P:=l.prog) (w:=w) (base:=base) F30 Z T
 have dTf:=se (P:=l.prog) (w:=w) (base:=base) F31 Z T
 have dIlO:=lY (P:=l.prog) (w:=w) (base:=base) F12 Z
 have dWhO:=qf (P:=l.prog) (w:=w) (base:=base) F14 Z (PySem.W.mg_none_of X G z_bool)
 have dSz:=si (P:=l.prog) (w:=w) (base:=base) F22 Z T ON GT ⟨a29,i29,k29⟩ dTk b29 dIlO dWhO
 have dRo:=nR (P:=l.prog) (w:=w) (base:=base) F23 Z
 have dBi:=ss (P:=l.prog) (w:=w) (base:=base) F32 Z T TB (PySem.W.mg_none_of X G z_dict) (PySem.W.mg_none_of X G z_zip) GV ⟨a29,i29,k29⟩ dTk b29 ⟨a30,i30,k30⟩ dTt b30 ⟨a31,i31,k31⟩ dTf b31 dSz dRo
 have dFo:=qk (P:=l.prog) (w:=w) (base:=base) F24 Z TB
 have dFi:=uV (P:=l.prog) (w:=w) (base:=base) F25 Z TB dFo ⟨mkB,a32,i32,kcB⟩ dBi (PySem.W.mg_of X G aCB) b32
 have gSt:=sf (P:=l.prog) (w:=w) (base:=base) FS Z (PySem.W.mg_none_of X G z_sum) (PySem.W.mg_none_of X G z_sorted) rfl (PySem.W.codeHd_of_K bK hC) bB T ON GT GG ⟨a29,i29,k29⟩ dTk b29 dWhO
 have dSt:fY l.prog w K mg base "sizes_to" 5 ["signs","total"] (iJ C N TT):=⟨f26,_,(PySem.W.mg_of X G a26),k26,bS,gSt⟩
 have dMany:=uR (P:=l.prog) (w:=w) (base:=base) F4 Z
 have dLr:=sj (P:=l.prog) (w:=w) (base:=base) F5 Z dMany
 have dLc:=qj (P:=l.prog) (w:=w) (base:=base) F6 Z dLr
 have dLv:=nW (P:=l.prog) (w:=w) (base:=base) F7 Z dMany
 have dLf:=sk (P:=l.prog) (w:=w) (base:=base) F8 Z dLc dLv
 have dFl:=sr (P:=l.prog) (w:=w) (base:=base) F9 Z (PySem.W.mg_none_of X G z_ValueError) TN (PySem.W.mg_of X G aN) (PySem.W.mg_of X G aX1) (PySem.W.mg_of X G aX2) (PySem.W.mg_of X G aX3) (PySem.W.mg_of X G aX4) (PySem.W.mg_of X G aX5) (PySem.W.mg_of X G aX6) (PySem.W.mg_of X G aX7) (PySem.W.mg_of X G aX8)
 have dRe:=nU (P:=l.prog) (w:=w) (base:=base) F10 Z ⟨(PySem.W.mg_of X G aF),⟨_,_,_,xF⟩,bF⟩ TN dFl dSt dFi
 have dLs:=qi (P:=l.prog) (w:=w) (base:=base) F11 Z (PySem.W.mg_none_of X G z_sum) (PySem.W.mg_none_of X G z_sorted)
 exact wQ FL Z dPot dDraw dBook dLs dLf dRe dSt dFi ⟨mk,a28,i28,kc⟩ dIni (PySem.W.mg_of X G aC) b28
theorem walk {l:PySem.W.OpenLaw} {q:Program} {loose:List Str} {XP:(Str→Option Value)→Heap→Prop} {YP:World→Heap→Prop} {d:DefRec} {K:Params→PySem.W.Frag} {cc TT:World→Addr} (hn:l.most=some 63) (hdf:d.params.defaults=[]) (hq:PyProof.Rows.importsNone q=true) (hrec:((PyProof.Rows.recsOf q).find? (fun e=>e.name==("sizes_to":Str))).isSome=true)
  (hY:∀ (w:World) (h:Heap),YP w h→(K w.params).In h) (hnt:∀ w:World,PySem.W.noTabs (K w.params)=true) (htb:∀ w:World,PySem.W.tabIn (K w.params) "sizes_to"=some (cc w,TT w))
  (F:∀ (w:World) (mg:Str→Option Value) (fa:Addr) (h:Heap),(K w.params).In h→h.Ns mainGlobals mg→mg d.name=some (.ref fa)→
   ∃ fd:FuncData,(∀ (s:Shared) (u:Value),BindsTo s fd ⟨[u],[]⟩ [("_law_script",u)])∧∀ base:Heap,(K w.params).In base→base.Ns mainGlobals mg→base.BuiltinsAt mg (TT w)→dk l.prog w (K w.params) mg base CX0 7 fa fd ["_law_script"] (oU (K w.params) (TT w))) :
  PySem.W.WalkO q loose XP YP l.row.toRowW d [] (fun f vs=>PySem.call f vs):=
 L2.walk_ofU (n:=63) (k:=7) (x:="_law_script") (y:="sizes_to") (CX:=fun _=>CX0) (sp:=fun w=>oU (K w.params) (TT w)) hn (by decide) hdf ⟨rfl,rfl,by decide,by decide⟩ hq hrec hY hnt htb F (fun _ _ a ns hl hT hS=>⟨a,ns,rfl,hS,hl,hT,fun _=>rfl⟩) fun _ _ _ _ _ z=>z
end FewE
open PySem PySem.W PyProof.Rows
set_option maxRecDepth 100000 in
set_option maxHeartbeats 0 in
theorem PySem.Challenge.cw_fewthings_k31_sizes_and_fillings_holds : PySem.Challenge.rw_fewthings_k31_sizes_and_fillings.Holds := by
 w_on; o_law; k_head; (case hw=>w_witness2)
 k_fill
 refine' FewE.walk (l:=PySem.Challenge.rw_fewthings_k31_sizes_and_fillings) rfl rfl (by first | rfl | decide +kernel) ?rec (fun w h Y=>PySem.W.km_in_of Y) ?nt ?tb ?F
 case rec=>first | rfl | decide +kernel
 case nt=>intro w; first | rfl | kernel_rfl | decide +kernel
 case tb=>
  intro w
  refine' FewE.tab_mk ?ta ?tl ?th ?tc ?tv
  (case ta=>k_is)
  (case tl=>k_is)
  (case th=>rfl)
  (case tc=>k_is)
  (case tv=>rfl)
 case F=>
  intro w mg fa h KX G hmg
  refine' FewE.all_mk KX G hmg (FewE.funAt_mk KX G ?a0 ?l0 ?c0 ?k0 (fun _ _ _ _ _ _ us hl=>by obtain⟨_,rfl⟩:=FewE.lu1 hl; rfl)) (FewE.funAt_mk KX G ?a1 ?l1 ?c1 ?k1 (fun _ _ _ _ _ _ us hl=>by obtain⟨_,_,rfl⟩:=FewE.lu2 hl; rfl)) (FewE.funAt_mk KX G ?a2 ?l2 ?c2 ?k2 (fun _ _ _ _ _ _ us hl=>by obtain⟨_,_,_,rfl⟩:=FewE.lu3 hl; rfl)) (FewE.funAt_mk KX G ?a3 ?l3 ?c3 ?k3 (fun _ _ _ _ _ _ us hl=>by obtain⟨_,_,_,rfl⟩:=FewE.lu3 hl; rfl)) (FewE.funAt_mk KX G ?a4 ?l4 ?c4 ?k4 (fun _ _ _ _ _ _ us hl=>by obtain⟨_,_,_,rfl⟩:=FewE.lu3 hl; rfl)) (FewE.funAt_mk KX G ?a5 ?l5 ?c5 ?k5 (fun _ _ _ _ _ _ us hl=>by obtain⟨_,_,_,rfl⟩:=FewE.lu3 hl; rfl)) (FewE.funAt_mk KX G ?a6 ?l6 ?c6 ?k6 (fun _ _ _ _ _ _ us hl=>by obtain⟨_,_,rfl⟩:=FewE.lu2 hl; rfl)) (FewE.funAt_mk KX G ?a7 ?l7 ?c7 ?k7 (fun _ _ _ _ _ _ us hl=>by obtain⟨_,_,_,rfl⟩:=FewE.lu3 hl; rfl)) (FewE.funAt_mk KX G ?a8 ?l8 ?c8 ?k8 (fun _ _ _ _ _ _ us hl=>by obtain⟨_,_,rfl⟩:=FewE.lu2 hl; rfl)) (FewE.funAt_mk KX G ?a9 ?l9 ?c9 ?k9 (fun _ _ _ _ _ _ us hl=>by obtain⟨_,rfl⟩:=FewE.lu1 hl; rfl)) (FewE.funAt_mk KX G ?a10 ?l10 ?c10 ?k10 (fun _ _ _ _ _ _ us hl=>by obtain⟨_,_,_,rfl⟩:=FewE.lu3 hl; rfl)) (FewE.funAt_mk KX G ?a11 ?l11 ?c11 ?k11 (fun _ _ _ _ _ _ us hl=>by obtain⟨_,_,rfl⟩:=FewE.lu2 hl; rfl)) (FewE.funAt_mk KX G ?a12 ?l12 ?c12 ?k12 (fun _ _ _ _ _ _ us hl=>by obtain⟨_,rfl⟩:=FewE.lu1 hl; rfl)) (FewE.funAt_mk KX G ?a13 ?l13 ?c13 ?k13 (fun _ _ _ _ _ _ us hl=>by obtain⟨_,rfl⟩:=FewE.lu1 hl; rfl)) (FewE.funAt_mk KX G ?a14 ?l14 ?c14 ?k14 (fun _ _ _ _ _ _ us hl=>by obtain⟨_,rfl⟩:=FewE.lu1 hl; rfl)) (FewE.funAt_mk KX G ?a15 ?l15 ?c15 ?k15 (fun _ _ _ _ _ _ us hl=>by obtain⟨_,rfl⟩:=FewE.lu1 hl; rfl)) (FewE.funAt_mk KX G ?a16 ?l16 ?c16 ?k16 (fun _ _ _ _ _ _ us hl=>by obtain⟨_,rfl⟩:=FewE.lu1 hl; rfl)) (FewE.funAt_mk KX G ?a17 ?l17 ?c17 ?k17 (fun _ _ _ _ _ _ us hl=>by obtain⟨_,_,rfl⟩:=FewE.lu2 hl; rfl)) (FewE.funAt_mk KX G ?a18 ?l18 ?c18 ?k18 (fun _ _ _ _ _ _ us hl=>by obtain⟨_,_,rfl⟩:=FewE.lu2 hl; rfl)) (FewE.funAt_mk KX G ?a19 ?l19 ?c19 ?k19 (fun _ _ _ _ _ _ us hl=>by obtain⟨_,rfl⟩:=FewE.lu1 hl; rfl)) (FewE.funAt_mk KX G ?a20 ?l20 ?c20 ?k20 (fun _ _ _ _ _ _ us hl=>by obtain⟨_,_,rfl⟩:=FewE.lu2 hl; rfl)) (FewE.funAt_mk KX G ?a21 ?l21 ?c21 ?k21 (fun _ _ _ _ _ _ us hl=>by obtain⟨_,_,rfl⟩:=FewE.lu2 hl; rfl)) (FewE.funAt_mk KX G ?a22 ?l22 ?c22 ?k22 (fun _ _ _ _ _ _ us hl=>by obtain⟨_,_,rfl⟩:=FewE.lu2 hl; rfl)) (FewE.funAt_mk KX G ?a23 ?l23 ?c23 ?k23 (fun _ _ _ _ _ _ us hl=>by obtain⟨_,_,rfl⟩:=FewE.lu2 hl; rfl)) (FewE.funAt_mk KX G ?a24 ?l24 ?c24 ?k24 (fun _ _ _ _ _ _ us hl=>by obtain⟨_,rfl⟩:=FewE.lu1 hl; rfl)) (FewE.funAt_mk KX G ?a25 ?l25 ?c25 ?k25 (fun _ _ _ _ _ _ us hl=>by obtain⟨_,_,rfl⟩:=FewE.lu2 hl; rfl)) ?a26 ?l26 ?c26 ?k26 ?hC ?a27 ?l27 ?c27 ?k27 ?aC ?aCB (FewE.methAt_mk ?a28 ?i28 ?l28 ?c28 ?k28 (fun _ _ _ _ _ _ us hl=>by obtain⟨_,_,_,_,rfl⟩:=FewE.lu4 hl; rfl)) (FewE.methAt_mk ?a29 ?i29 ?l29 ?c29 ?k29 (fun _ _ _ _ _ _ us hl=>by obtain⟨_,rfl⟩:=FewE.lu1 hl; rfl)) (FewE.methAt_mk ?a30 ?i30 ?l30 ?c30 ?k30 (fun _ _ _ _ _ _ us hl=>by obtain⟨_,rfl⟩:=FewE.lu1 hl; rfl)) (FewE.methAt_mk ?a31 ?i31 ?l31 ?c31 ?k31 (fun _ _ _ _ _ _ us hl=>by obtain⟨_,rfl⟩:=FewE.lu1 hl; rfl)) (FewE.methAt_mk ?a32 ?i32 ?l32 ?c32 ?k32 (fun _ _ _ _ _ _ us hl=>by obtain⟨_,_,_,rfl⟩:=FewE.lu3 hl; rfl)) ?pg ?hd ?po ?sa ?mk ?kc ?n0 ?n1 ?n2 ?pgB ?hdB ?poB ?saB ?mkB ?kcB ?n0B ?n1B ?aF ?aN ?aX1 ?aX2 ?aX3 ?aX4 ?aX5 ?aX6 ?aX7 ?aX8 ?xF ?bF ?xN ?yga ?ygn ?ycl ?ymb ?ymo ?yty ?yve ?yot ?ykN ?yup ?z_len ?z_max ?z_abs ?z_divmod ?z_list ?z_tuple ?z_range ?z_int ?z_str ?z_repr ?z_isinstance ?z_all ?z_set ?z_dict ?z_zip ?z_bool ?z_sum ?z_sorted ?z_ValueError ?gL ?gI0 ?gI1 ?gI2 ?gI3 ?gI4 ?gI5 ?gI6 ?gW ?lW
  all_goals (try (first | k_is | kit_is | k_exc))
  all_goals (try (first | k_is | kit_is | k_exc | kernel_rfl))
