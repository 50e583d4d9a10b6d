import PyProof.Rows.All
import Wide.All
import OpenK.AllK
import Wide.FinOn
import Lean
import PyProof.EqAt
import PyProof.EqKinds
import PyProof.TupleCall
import PyProof.ExcBaseAll.ValueError
import PyProof.RulesAs
import PyProof.RulesDel
import PyProof.ExcArgsOwn
import PyProof.Draws
import PyProof.EnumFor
import PyProof.EnumMake
import KE.KDictList
import PyProof.ZipIter
import PyProof.TupleIter
import KE.KItemsList
import PyProof.AttrMissHeap
import KE.KDictOf
import PyProof.Rows.ZipGen
import PyProof.Rows.BootFacts
import PyProof.NeKinds
import PyProof.ListRange
import PyProof.RangeFor
import PyProof.DictCompW
import PyProof.CollectIter
import PyProof.WalksMore
import PyProof.DictUpdate
import PyProof.StrBlockH
import PyProof.StrLawsTight
import PyProof.StrLawsChain
import PyProof.StrCalls6
import PyProof.StrLawsReplace
import PyProof.ListIndex
import PyProof.Rows.DictUnroll
import PyProof.ExcClass3
import PyProof.InstStore
import PyProof.InstStoreFacts
import OpenK.KOwn
import OpenK.KMake
import PyProof.InstLoad
import KE.KLam
import KE.KNestM
import PyProof.WalkInts
import PyProof.Rows.StrWeight2
import PyProof.ReprLen
import KE.RegKIsAll
import PySem.Challenge.RW_fewthings_k13_sayings_looked_over
namespace PySem.W.Fast
def tw2934191919054146625:=0
def tw1603823337215890408:=0
def tw17772269027755766994:=0
def tw12785443908890328226:=0
def tw6778755877872707693:=0
def tw10185481153191940272:=0
def tw11379355241380939211:=0
def tw3127250250487254365:=0
def tw15024893874081960059:=0
def tw7598792116038771545:=0
def tw934072769843707383:=0
def tw11949208362960266959:=0
def tw4180043521970201316:=0
def tw4419649461621371107:=0
def tw11830238896442811228:=0
def tw8694445407979732156:=0
def tw4464204984658866005:=0
def tw6963799149893030781:=0
def tw15104068447181323448:=0
def tw7305407609480725923:=0
def tw4464944090626635041:=0
def tw9357410396580330527:=0
def tw5896579923381003238:=0
def tw8729587616628178158:=0
def tw3595272091962717649:=0
def tw14572739756499639665:=0
def tw7641747930277327369:=0
def tw17066139625353860669:=0
def tw17854618265688132853:=0
def tw2045532704897180837:=0
def tw12722546271916229741:=0
def tw4807357573104899676:=0
def tw3316699080783000349:=0
def tw11905564976495850065:=0
def tw3558184457384088312:=0
def tw14627789932902573653:=0
def tw15066474586739190062:=0
def tw5211262166362500718:=0
def tw15391663579220397606:=0
def tw10962863933482537244:=0
def tw1686211951012818321:=0
def tw18383243005048088471:=0
def tw1714542658911280057:=0
def tw17925523027640737155:=0
def tw12180258096657395796:=0
def tw6888733392917277684:=0
def tw2494356328448102450:=0
def tw2093632457521035826:=0
def tw2690697382468137178:=0
def tw14549864922699693237:=0
def tw2849556500145509673:=0
def tw7036868928578118571:=0
def tw14562647393375746655:=0
def tw4526342100207864651:=0
def tw12676726331735545690:=0
def tw18187195363329091983:=0
def tw2174009792972906019:=0
def tw2312266652052504483:=0
def tw9240028937625574102:=0
def tw15791487336182276645:=0
def tw14111066556801714070:=0
def tw1009538822730007549:=0
def tw992098096719888676:=0
def tw2776909891607888517:=0
def tw11246813965379173685:=0
def tw12058938419731798886:=0
def tw2700814005635095301:=0
def tw7690552604473874795:=0
def tw14767805795823209135:=0
def tw16744965116918606320:=0
def tw11786377183525561230:=0
def tw17129335506454531295:=0
def tw8543437982099201337:=0
def tw3492021866969457712:=0
def tw10263928218566267756:=0
def tw7043096351639822963:=0
def tw14829586198015406212:=0
def tw541537853224104547:=0
def tw15799048698929901117:=0
def tw1096668963009507910:=0
def tw15991321892973095136:=0
def tw18036283562080470700:=0
def tw9107029461295376967:=0
def tw2489782655650320833:=0
def tw6621803434743960092:=0
def tw12523765852239674848:=0
def tw13450593866880870015:=0
def tw17361509254648866105:=0
def tw9889264304710056699:=0
def tw11489032240929144560:=0
def tw7094552694209010786:=0
def tw2938083585912533972:=0
def tw17808656151062041362:=0
def tw134928806140074394:=0
def tw8762132189849055260:=0
def tw7818729390411761120:=0
def tw11794784329799908145:=0
def tw6948821444135670434:=0
def tw4928454008798340399:=0
def tw603635471060090677:=0
def tw15455457510963857974:=0
def tw16982344440144329478:=0
def tw6327863854933173343:=0
def tw3535190038561633205:=0
def tw461196128459381132:=0
def tw12924564300023861617:=0
def tw13108376396530052143:=0
def tw15520757345943787784:=0
def tw2917300344420423859:=0
def tw6618565881342734481:=0
def tw3594451562872355925:=0
def tw5893773802553714205:=0
def tw5475838939032122343:=0
def tw17434081113952896431:=0
def tw16566174992780761355:=0
def tw2276210565127561198:=0
def tw12698584684581698892:=0
def tw10229810040217719435:=0
def tw17635697449541455463:=0
def tw897209144278547038:=0
def tw11566895881170283184:=0
def tw3018921440161629649:=0
def tw15495184755088236742:=0
def tw8602037573203173389:=0
def tw12808891473540478732:=0
def tw7596648359961021423:=0
def tw9981450510247473020:=0
def tw15471682187044821986:=0
def tw5155125663660337180:=0
def tw16625131970708159248:=0
def tw6735759237844894222:=0
def tw10413976176464885990:=0
def tw7594806828315112310:=0
def tw13580060094881864675:=0
def tw8292941943261330029:=0
def tw3688275821076549114:=0
def tw7776901934075792072:=0
def tw1927634475181223291:=0
def tw8715706522999497445:=0
def tw12587333034133637598:=0
def tw15480384591832332614:=0
def tw5065751081263894731:=0
def tw9683866114015403043:=0
def tw4213319341114300846:=0
def tw3629540804762568441:=0
def tw5390992572536611963:=0
def tw14587108708121330435:=0
def tw13881642236823874333:=0
def tw4706305848222548826:=0
def tw15925880197032703463:=0
def tw15770427050013726516:=0
def tw4471892278320801023:=0
def tw15211045345817296444:=0
def tw10619125550873326473:=0
def tw4873051177173665229:=0
def tw14780598901988164625:=0
def tw9146972833849920439:=0
def tw9956275480297166230:=0
def tw18037203474563049976:=0
def tw4329821386426603181:=0
def tw18242369680344237976:=0
def tw344614773085401252:=0
def tw5253601205265061976:=0
def tw2461818054819692242:=0
def tw17865590272446113875:=0
def tw5769497872372124949:=0
def tw13090947746102325245:=0
def tw13918211826048039296:=0
def tw784609753230468957:=0
def tw15331363215145053116:=0
def tw13624999440785468894:=0
def tw10027966083760342557:=0
def tw8139338457643512467:=0
def tw2832984548243575993:=0
def tw15007768285147506545:=0
def tw1473866792898790509:=0
def tw6081122894527463988:=0
def tw10701105300132085213:=0
def tw1510949782187912654:=0
def tw10577622802012671530:=0
def tw107059875542912775:=0
def tw10432958576465403113:=0
def tw7307604063606288808:=0
def tw384587057691867284:=0
def tw9075415731133428288:=0
def tw8329614717325761685:=0
def tw8074262804024542219:=0
def tw5899394024666956308:=0
def tw4428005789288401288:=0
def tw12809915802792469516:=0
def tw6313583976378151977:=0
def tw6375513072357731256:=0
def tw13295276967596488881:=0
def tw7747326563849579993:=0
def tw17004271011971614596:=0
def tw15056460011030826742:=0
def tw17438366448282025188:=0
def tw14396666988492796061:=0
def tw7585932857675270078:=0
def tw611989510353898283:=0
def tw7715041661046103296:=0
def tw13999906641704529321:=0
def tw6183485701535203540:=0
def tw9703482788734475287:=0
def tw5021863905268872761:=0
def tw3398106845504195617:=0
def tw4301915786096155702:=0
def tw3338703338364976538:=0
def tw8337811484152088269:=0
def tw582091537033343178:=0
def tw5762488099173005783:=0
def tw1032608641613904956:=0
def tw7895589362130964667:=0
def tw2665211497237830096:=0
def tw11822891286878849589:=0
def tw11355486884805321937:=0
def tw3681338793911468697:=0
def tw8748680785564646479:=0
def tw2959727913966477079:=0
def tw200880252642735905:=0
def tw6383856578545154785:=0
def tw8688192106413912680:=0
def tw11374935495018952522:=0
def tw6915013955591647229:=0
def tw1785092021579896175:=0
def tw13937872195414522444:=0
def tw1076036872051306970:=0
def tw4708545263979738116:=0
def tw8291720909382463743:=0
def tw125037354644258264:=0
def tw5631342403438093531:=0
def tw16754596040222353803:=0
def tw6315933147817612242:=0
def tw5738376465787357590:=0
def tw16599492853558419682:=0
def tw1520718364569256851:=0
def tw11427470803370848989:=0
def tw10212666899924022656:=0
def tw10078122239087176324:=0
def tw10990130340239061940:=0
def tw3504116316489177833:=0
def tw16652681166705744313:=0
def tw14881740182640099853:=0
def tw8410717134654956643:=0
def tw16290182555746230276:=0
def tw8172349101087243094:=0
def tw16256382625448726922:=0
def tw13594240040433824413:=0
def tw10936922459481481036:=0
def tw8724293073939474987:=0
def tw18403703532630523637:=0
def tw15133429953923198211:=0
def tw4106116508763184061:=0
def tw15033155541706008764:=0
def tw14157021767862531089:=0
def tw16927916218535295222:=0
def tw10014801295547147941:=0
def tw8425405022714339816:=0
def tw6443998881534319667:=0
def tw11002450990075045480:=0
def tw6639604621822783484:=0
def tw2785767533665400179:=0
def tw18097859330317894601:=0
def tw7915962929697486987:=0
def tw8803567592666199240:=0
def tw15498429825387656135:=0
def tw11257235244301054587:=0
def tw8758856675822869378:=0
def tw10810345104470291626:=0
def tw8442903826936841266:=0
def tw11952103339391550537:=0
def tw1966969821209166616:=0
def tw15737215607456237137:=0
def tw6191428392068238189:=0
def tw8937039047298306018:=0
def tw3118619362046091950:=0
def tw13067360957423730605:=0
def tw16114235621245429914:=0
def tw16746995692921658582:=0
def tw5894291816989768520:=0
def tw11480573565852727906:=0
def tw16779337034111973672:=0
def tw9353889319536461285:=0
def tw14503999629540399143:=0
def tw16990898517111359080:=0
def tw14732577104357228812:=0
def tw14728117608400712132:=0
def tw14255682656097458799:=0
def tw3670595561362494943:=0
def tw15352235759479548485:=0
def tw1286463489890125423:=0
def tw10905207552469206058:=0
def tw15432493485809989926:=0
def tw12989767750550163749:=0
def tw11385048228641122996:=0
def tw16960286635702546758:=0
def tw11398587348496841732:=0
def tw11092326520086423498:=0
def tw9318548832826492158:=0
def tw1794621269708370383:=0
end PySem.W.Fast
set_option compiler.extract_closed false
set_option Elab.async false
set_option linter.all false
set_option maxRecDepth 100000
open PySem renaming wpAny_bind → Yz, wpAny_pure → YB, wpAny_mono → YH
open PySem.Heap renaming get?_push_of_some → YA, lt_size → YF, get?_push_size → YJ, size_push → XD, SameBut → XI, get?_update_other → XY, get?_update_self → X1, get?_none_of_le → X8
open List renaming length_map → YC, mem_append_right → YI, mem_singleton → YK, size_toArray → YL, mem_cons → YM, length_cons → YR, mem_of_getElem? → YU, getElem?_eq_some_iff → YV, mem_cons_self → YX, length_append → YY, getElem?_map → YZ, mem_cons_of_mem → Y0, map_append → Y1, mem_append → Y3, take_succ → Y7, take_length → Y8, map_cons → Y9, not_mem_nil → XB, mem_append_left → XC, length_singleton → XH, getElem_mem → XL, all_eq_true → XN, length_replicate → XO, lookup_cons → XQ, mem_map → XR, take_of_length_le → XS, append_nil → XT, find?_cons → XU, any_cons → XW, length_take → XX, getElem?_append_right → X0, getElem?_append_left → X5, append_assoc → X6, mem_of_find?_eq_some → X7, replicate_succ → X9, Perm → Wz, nodup_cons → WA
open Nat renaming le_refl → YD, le_trans → YE, zero_le → YO, ne_of_lt → YT, lt_of_lt_of_le → Y2, lt_of_le_of_lt → Xz, ne_of_gt → X3
open PySem.PyData renaming weightAll → YG, depthAll → YQ, weight → Y4, leavesShortAll → Y5, depth → Y6, showableAll → XA, leavesShort → XG, showable → XJ
open Bool renaming false_ne_true → YN, and_eq_true → YW, false_eq_true → XF, false_and → XZ, eq_iff_iff → X4
open Option renaming map_eq_some_iff → YS, map_some → XM
open Array renaming length_toList → XV, getElem?_eq_some_iff → X2
abbrev WB:=PySem.W.Frag
namespace L2
open PySem PySem.Spec PyProof.Rows
abbrev Key:=Sum Int Str
def iu:Key→Value→Bool
 | .inl k,v=>Value.isInt k v
 | .inr x,v=>Value.isStrOf x v
def zZ(w:World):Key→Int
 | .inl k=>hashInt k
 | .inr x=>hashStr w x
theorem aY:∀ {k:Key} {v:Value},iu k v=true→(∃ i t,k=Sum.inl i∧v=Value.int i t)∨(∃ x t,k=Sum.inr x∧v=Value.str x t)
 | .inl i,v,h=>by
  obtain⟨t,e⟩:=Value.isInt_shape (k:=i) (v:=v) h
  exact .inl ⟨i,t,rfl,e⟩
 | .inr x,v,h=>by
  obtain⟨t,e⟩:=Value.isStrOf_shape (x:=x) (v:=v) h
  exact .inr ⟨x,t,rfl,e⟩
theorem qH(i:Int)(t:Tok):iu (.inl i) (.int i t)=true:=by simp [iu,Value.isInt]
theorem qG(x:Str)(t:Tok):iu (.inr x) (.str x t)=true:=by simp [iu,Value.isStrOf]
theorem yt(a b:Int):decide ((Sum.inl a:Key)=Sum.inl b)=(a==b):=by
 by_cases e:a=b
 ·subst e; simp
 ·have h:¬ (Sum.inl a:Key)=Sum.inl b:=fun q=>e (Sum.inl.inj q)
  rw [decide_eq_false h]
  exact(beq_eq_false_iff_ne.mpr e).symm
theorem yo(a b:Str):decide ((Sum.inr a:Key)=Sum.inr b)=decide (a=b):=by
 by_cases e:a=b
 ·subst e; simp
 ·have h:¬ (Sum.inr a:Key)=Sum.inr b:=fun q=>e (Sum.inr.inj q)
  rw [decide_eq_false h,decide_eq_false e]
theorem yq(a:Int)(b:Str):decide ((Sum.inl a:Key)=Sum.inr b)=false:=decide_eq_false (fun q=>nomatch q)
theorem yp(a:Str)(b:Int):decide ((Sum.inr a:Key)=Sum.inl b)=false:=decide_eq_false (fun q=>nomatch q)
def aE(prog:Program)(w:World):PySem.KeyKind prog w Key where
 is:=iu
 hash:=zZ w
 inj:=fun v a b ha hb=>by
  rcases aY ha with ⟨i,t,rfl,rfl⟩ | ⟨x,t,rfl,rfl⟩
  ·rcases aY hb with ⟨j,u,rfl,e⟩ | ⟨y,u,rfl,e⟩
   ·injection e with e1 _; rw [e1]
   ·exact nomatch e
  ·rcases aY hb with ⟨j,u,rfl,e⟩ | ⟨y,u,rfl,e⟩
   ·exact nomatch e
   ·injection e with e1 _; rw [e1]
 byValue:=fun k v h=>by
  rcases aY h with ⟨i,t,rfl,rfl⟩ | ⟨x,t,rfl,rfl⟩ <;> rfl
 pyHash:=fun hv h=>by
  rcases aY hv with ⟨i,t,rfl,rfl⟩ | ⟨x,t,rfl,rfl⟩
  ·exact wpAny_pyHash_int h
  ·exact wpAny_pyHash_str h
 eqBool:=fun hu hv h=>by
  rcases aY hu with ⟨i,t,rfl,rfl⟩ | ⟨x,t,rfl,rfl⟩
  ·rcases aY hv with ⟨j,u,rfl,rfl⟩ | ⟨y,u,rfl,rfl⟩
   ·rw [yt] at h; exact wpAny_eqBool_int h
   ·rw [yq] at h; exact SeqAt.EqAt.int_str i t y u _ _ _ _ h
  ·rcases aY hv with ⟨j,u,rfl,rfl⟩ | ⟨y,u,rfl,rfl⟩
   ·rw [yp] at h; exact SeqAt.EqAt.str_int x t j u _ _ _ _ h
   ·rw [yo] at h; exact wpAny_eqBool_str h
 «strs»:=fun k x t v h=>by
  rcases aY h with ⟨i,u,rfl,e⟩ | ⟨y,u,rfl,e⟩
  ·exact nomatch e
  ·injection e with e1 _
   subst e1
   cases v <;> rfl
theorem mr(prog:Program)(w:World)(i:Int)(t:Tok):(aE prog w).is (.inl i) (.int i t)=true:=qH i t
theorem mq(prog:Program)(w:World)(x:Str)(t:Tok):(aE prog w).is (.inr x) (.str x t)=true:=qG x t
inductive V where
 | non | bl (b:Bool) | int (i:Int) | str (x:Str) | byt (b:Array UInt8) | flt (b:UInt64) | ref (a:Addr) | ty (n:String)
 deriving DecidableEq
def ar:V→Value→Prop
 | .non,u=>u=Value.none
 | .bl b,u=>u=Value.bool b
 | .int i,u=>∃ t,u=Value.int i t
 | .str x,u=>∃ t,u=Value.str x t
 | .byt b,u=>∃ t,u=Value.bytes b t
 | .flt b,u=>∃ t,u=Value.float b t
 | .ref a,u=>u=Value.ref a
 | .ty n,u=>u=Value.type n
abbrev ax:List V→List Value→Prop:=Paired ar
theorem ax.length{xs:List V}{us:List Value}(r:ax xs us):xs.length=us.length:=Paired.length r
theorem ax.get:∀ {xs:List V} {us:List Value} {i:Nat} {x:V},ax xs us→xs[i]? = some x→∃ u,us[i]? = some u∧ar x u
 | _,_,_,_,.nil,e=>by simp at e
 | _,_,0,_,.cons r _,e=>by simp at e; subst e; exact⟨_,rfl,r⟩
 | _,_,i+1,x,.cons _ t,e=>by
  obtain⟨u,h1,h2⟩:=ax.get (i:=i) (x:=x) t (by simpa using e)
  exact⟨u,by simpa using h1,h2⟩
theorem ax.set{x:V}{u:Value}(r:ar x u):∀ {xs:List V} {us:List Value} (i:Nat),ax xs us→ax (xs.set i x) (us.set i u)
 | _,_,_,.nil=>.nil
 | _,_,0,.cons _ t=>.cons r t
 | _,_,i+1,.cons q t=>.cons q (ax.set r i t)
theorem ax.append:∀ {xs ys:List V} {us ws:List Value},ax xs us→ax ys ws→ax (xs++ys) (us++ws)
 | _,_,_,_,.nil,s=>s
 | _,_,_,_,.cons r t,s=>.cons r (ax.append t s)
theorem ax.take:∀ {xs:List V} {us:List Value} (n:Nat),ax xs us→ax (xs.take n) (us.take n)
 | _,_,0,_=>.nil
 | _,_,_+1,.nil=>.nil
 | _,_,n+1,.cons r t=>.cons r (ax.take n t)
theorem ax.drop:∀ {xs:List V} {us:List Value} (n:Nat),ax xs us→ax (xs.drop n) (us.drop n)
 | _,_,0,r=>r
 | _,_,_+1,.nil=>.nil
 | _,_,n+1,.cons _ t=>ax.drop n t
def eJ:Option V→Option Value→Prop
 | some v,some u=>ar v u
 | none,none=>True
 | _,_=>False
def KV{κ:Type}:List (κ×V)→List (κ×Value)→Prop:=Paired fun (p:κ×V) (q:κ×Value)=>p.1=q.1∧ar p.2 q.2
def kV:Key→V
 | .inl i=>.int i
 | .inr x=>.str x
inductive HO where
 | lst (xs:List V)
 | tup (xs:List V)
 | dK (kvs:List (Key×V)) | dT (kvs:List (List Key×V))
 | set (S:Int→Bool) (n:Nat)
 | ins (C dx:Addr) (fs:List (Str×V))
 | own (x:Addr)
 | xd (fs:List (Str×V))
 | met (f x:Addr)
 | rng (lo hi:Int)
 | frz (o:Obj) (u:HO)
 | tbl (ps:Array Value)
 | ext (φ:Heap→Prop)
abbrev Hp:=Addr→Option HO
def upd(H:Hp)(a:Addr)(o:HO):Hp:=fun b=>if b=a then some o else H b
theorem aa{H:Hp}{a:Addr}{o:HO}:upd H a o a=some o:=by unfold upd; rw [if_pos rfl]
theorem ae{H:Hp}{a b:Addr}{o:HO}(h:b≠a):upd H a o b=H b:=by unfold upd; rw [if_neg h]
theorem zn{H:Hp}{a b:Addr}{o u:HO}(h:H a=some o)(h':H b=some u)(d:o≠u):a≠b:=by
 intro e; subst e; rw [h] at h'; exact d (Option.some.inj h')
theorem af{H:Hp}{a b:Addr}{o:HO}(h:H a=some o)(h':H b=none):a≠b:=by
 intro e; subst e; rw [h] at h'; cases h'
section
variable(P:Program)(w:World)
def aM(H:Hp)(h:Heap)(a:Addr):HO→Prop
 | .lst xs=>xs.length≤sizeLine∧∃ (its:List Value) (n:Nat),ax xs its∧h.get? a=some {cls:=.type "list",data:=.seq its.toArray n}
 | .tup xs=>xs.length≤sizeLine∧∃ its:List Value,ax xs its∧IsTup h a its.toArray
 | .dK kvs=>kvs.length≤sizeLine∧(a==sysModules)=false∧∃ vs,KV kvs vs∧h.DictOf (aE P w) a vs
 | .dT kvs=>kvs.length≤sizeLine∧(a==sysModules)=false∧∃ xs:List (List Key×Addr×Value),
   Paired (fun (p:List Key×V) (q:List Key×Addr×Value)=>p.1=q.1∧H q.2.1=some (.tup (p.1.map kV))∧ar p.2 q.2.2) kvs xs∧
   ∃ o es ep,h.get? a=some o∧o.ExactDict∧o.data=.dict es ep∧es.toList=xs.map (entryOfKey (tupleKind (aE P w)))∧(xs.map (·.1)).Nodup
 | .set S n=>h.SetOf (intKind P w) a S n
 | .ins C dx fs=>H dx=some (.own a)∧fs.length≤1000∧dx≠a∧h.get? a=some (PySem.W.instObj C dx)∧
   ∃ mA,h.Ns1 dx mA∧(∀ f,eJ (fs.lookup f) (mA f))∧PySem.Within mA (fs.map (·.1))
 | .own _=>∃ o,h.get? a=some o
 | .xd fs=>∃ mA,h.Ns1 a mA∧∀ f,eJ (fs.lookup f) (mA f)
 | .rng lo hi=>∃ t u v,h.get? a=some {cls:=.type "range",data:=.fields #[.int lo t,.int hi u,.int 1 v]}
 | .frz o u=>h.get? a=some o∧aM H h a u
 | .tbl ps=>h.get? a=some {cls:=.none,data:=.fields ps}
 | .met f x=>h.get? a=some (PySem.W.methodObj (.ref f) (.ref x))
 | .ext φ=>φ h∧(∃ o,h.get? a=some o)∧∀ h1 h2:Heap,φ h1→(∀ o,h1.get? a=some o→h2.get? a=some o)→φ h2
def HOk(H:Hp)(h:Heap):Prop:=∀ a o,H a=some o→aM P w H h a o
end
section
variable{P:Program}{w:World}{H H':Hp}{h h':Heap}{a:Addr}{o:HO}
theorem aM.lt(x:aM P w H h a o):a<h.objs.size:=by
 cases o with
 | lst xs=>obtain⟨_,_,_,_,e⟩:=x; exact YF e
 | tup xs=>obtain⟨_,_,_,p⟩:=x; exact p.lt
 | dK kvs=>obtain⟨_,_,_,_,o,_,_,e,_⟩:=x; exact YF e
 | dT kvs=>obtain⟨_,_,_,_,o,_,_,e,_⟩:=x; exact YF e
 | set S n=>obtain⟨o,_,_,_,e,_⟩:=x; exact YF e
 | ins C dx fs=>obtain⟨_,_,_,e,_⟩:=x; exact YF e
 | own y=>obtain⟨_,e⟩:=x; exact YF e
 | xd fs=>obtain⟨_,⟨_,_,_,e,_⟩,_⟩:=x; exact YF e
 | rng lo hi=>obtain⟨_,_,_,e⟩:=x; exact YF e
 | frz ob u=>obtain⟨e,_⟩:=x; exact YF e
 | tbl ps=>exact YF (show h.get? a=some _ from x)
 | met f y=>exact YF (show h.get? a=some _ from x)
 | ext φ=>obtain⟨_,⟨_,e⟩,_⟩:=x; exact YF e
theorem Paired.mapP{α β:Type}{F G:α→β→Prop}:∀ {l₁:List α} {l₂:List β},Paired F l₁ l₂→(∀ a b,F a b→G a b)→Paired G l₁ l₂
 | _,_,.nil,_=>.nil
 | _,_,.cons r t,f=>.cons (f _ _ r) (Paired.mapP t f)
theorem aM.stay(x:aM P w H h a o)(k:∀ b u,(b=a∨H b=some (.own a))→h.get? b=some u→h'.get? b=some u)
  (ho:∀ b,H b=some (.own a)→H' b=some (.own a)) (ht:∀ b xs,H b=some (.tup xs)→H' b=some (.tup xs)):aM P w H' h' a o:=by
 induction o with
 | lst xs=>obtain⟨z,its,n,r,e⟩:=x; exact⟨z,its,n,r,k _ _ (.inl rfl) e⟩
 | tup xs=>obtain⟨z,its,r,ob,e,c⟩:=x; exact⟨z,its,r,ob,k _ _ (.inl rfl) e,c⟩
 | dK kvs=>obtain⟨z,y,vs,r,ob,es,ep,e,c⟩:=x; exact⟨z,y,vs,r,ob,es,ep,k _ _ (.inl rfl) e,c⟩
 | dT kvs=>
  obtain⟨z,y,xs,r,ob,es,ep,e,c⟩:=x
  exact⟨z,y,xs,Paired.mapP r fun p q z=>⟨z.1,ht _ _ z.2.1,z.2.2⟩,ob,es,ep,k _ _ (.inl rfl) e,c⟩
 | set S n=>obtain⟨ob,es,ep,t,e,c⟩:=x; exact⟨ob,es,ep,t,k _ _ (.inl rfl) e,c⟩
 | ins C dx fs=>
  obtain⟨d,z,ne,e,mA,⟨od,es,ep,e2,c⟩,r⟩:=x
  exact⟨ho _ d,z,ne,k _ _ (.inl rfl) e,mA,⟨od,es,ep,k _ _ (.inr d) e2,c⟩,r⟩
 | own y=>obtain⟨ob,e⟩:=x; exact⟨ob,k _ _ (.inl rfl) e⟩
 | xd fs=>obtain⟨mA,⟨od,es,ep,e,c⟩,r⟩:=x; exact⟨mA,⟨od,es,ep,k _ _ (.inl rfl) e,c⟩,r⟩
 | rng lo hi=>obtain⟨t,u,v,e⟩:=x; exact⟨t,u,v,k _ _ (.inl rfl) e⟩
 | frz ob u ih=>obtain⟨e,q⟩:=x; exact⟨k _ _ (.inl rfl) e,ih q⟩
 | tbl ps=>
  have e:h.get? a=some {cls:=.none,data:=.fields ps}:=x
  show h'.get? a=some {cls:=.none,data:=.fields ps}
  exact k a _ (.inl rfl) e
 | met f y=>
  have e:h.get? a=some (PySem.W.methodObj (.ref f) (.ref y)):=x
  show h'.get? a=some (PySem.W.methodObj (.ref f) (.ref y))
  exact k a _ (.inl rfl) e
 | ext φ=>obtain⟨p,⟨o,e⟩,st⟩:=x; exact⟨st _ _ p fun o q=>k _ _ (.inl rfl) q,⟨o,k _ _ (.inl rfl) e⟩,st⟩
theorem HOk.lt(x:HOk P w H h)(e:H a=some o):a<h.objs.size:=(x a o e).lt
theorem HOk.fresh(x:HOk P w H h)(e:h.objs.size≤a):H a=none:=by
 cases q:H a with
 | none=>rfl
 | some u=>exact absurd (Y2 (x.lt q) e) (Nat.lt_irrefl _)
theorem HOk.kept(x:HOk P w H h)(k:∀ b u,h.get? b=some u→h'.get? b=some u):HOk P w H h':=fun a o e=>
 (x a o e).stay (fun b u _ q=>k b u q) (fun _ q=>q) fun _ _ q=>q
theorem HOk.laid(x:HOk P w H h)(k:∀ b u,h.get? b=some u→h'.get? b=some u)(hp:h.objs.size≤a)(new:aM P w (upd H a o) h' a o):HOk P w (upd H a o) h':=fun b u e=>by
 have hn:=x.fresh hp
 by_cases hb:b=a
 ·subst hb; rw [aa] at e; cases e; exact new
 ·rw [ae hb] at e
  exact(x b u e).stay (fun c v _ q=>k c v q) (fun c q=>by rw [ae (af q hn)]; exact q) fun c xs q=>by rw [ae (af q hn)]; exact q
end
def Rd(H:Hp)(a:Addr)(u:HO):Prop:=H a=some u∨∃ o,H a=some (.frz o u)
theorem Rd.ok{P:Program}{w:World}{H:Hp}{h:Heap}{a:Addr}{u:HO}(r:Rd H a u)(x:HOk P w H h):aM P w H h a u:=by
 rcases r with r | ⟨o,r⟩
 ·exact x a u r
 ·obtain⟨_,q⟩:=x a _ r
  exact q
def Mut:Option HO→Prop
 | some (.lst _)=>True
 | some (.dK _)=>True
 | some (.dT _)=>True
 | some (.set _ _)=>True
 | some (.ins _ _ _)=>True
 | some (.ext _)=>True
 | _=>False
section
variable{P:Program}{w:World}{H:Hp}{h h':Heap}{x e:Addr}{o':HO}
theorem HOk.write(ok:HOk P w H h)(mu:Mut (H x))(he:e=x∨H e=some (.own x))(k:∀ b u,b≠e→h.get? b=some u→h'.get? b=some u)(heo:∃ u,h'.get? e=some u)
  (new:aM P w (upd H x o') h' x o'):HOk P w (upd H x o') h':=fun b u q=>by
 have nown:∀ c y,H c=some (.own y)→c≠x:=fun c y r z=>by subst z; rw [r] at mu; exact mu
 have ntup:∀ c xs,H c=some (.tup xs)→c≠x:=fun c xs r z=>by subst z; rw [r] at mu; exact mu
 by_cases hb:b=x
 ·subst hb; rw [aa] at q; cases q; exact new
 ·rw [ae hb] at q
  by_cases hbe:b=e
  ·have q':H b=some (.own x):=by
    rcases he with z | z
    ·exact absurd (hbe.trans z) hb
    ·rw [hbe]; exact z
   rw [q] at q'; cases q'
   obtain⟨v,hv⟩:=heo
   exact⟨v,by rw [hbe]; exact hv⟩
  ·refine(ok b u q).stay (fun c v hc r=>k c v ?_ r) (fun c r=>by rw [ae (nown c b r)]; exact r) fun c xs r=>by rw [ae (ntup c xs r)]; exact r
   rcases hc with rfl | hc
   ·exact hbe
   ·rintro rfl
    rcases he with z | z
    ·exact nown c b hc z
    ·rw [hc] at z; cases z; exact hb rfl
end
structure Un(fs ex:List Addr)(H H':Hp)(h h':Heap):Prop where
 keep:∀ b o,h.get? b=some o→H b=none→b∉fs→b∉ex→h'.get? b=some o
 slot:∀ b o,h.get? b=some o→H b=none→b∈fs→b∉ex→∃ sl,h'.get? b=some {o with slots:=sl}
 free:∀ b o,h.get? b=some o→H b=none→b∉ex→H' b=none
 there:∀ b o,h.get? b=some o→b∉ex→∃ o',h'.get? b=some o'
 tups:∀ b xs,H b=some (.tup xs)→H' b=some (.tup xs)
 frzs:∀ b o u,H b=some (.frz o u)→H' b=some (.frz o u)
 tbls:∀ b ps,H b=some (.tbl ps)→∃ more,H' b=some (.tbl (ps++more))
section
variable{fs fs' ex ex':List Addr}{H H1 H2:Hp}{h h1 h2 h':Heap}{a x e:Addr}{o:HO}
theorem Un.any(u:Un fs ex H H1 h h1){b:Addr}{ob:Obj}(q:h.get? b=some ob)(n:H b=none)(hx:b∉ex):∃ sl,h1.get? b=some {ob with slots:=sl}:=by
 by_cases hb:b∈fs
 ·exact u.slot b ob q n hb hx
 ·exact⟨ob.slots,u.keep b ob q n hb hx⟩
theorem Un.kept(k:∀ b u,h.get? b=some u→h'.get? b=some u):Un fs ex H H h h':=
 ⟨fun b ob q _ _ _=>k b ob q,fun b ob q _ _ _=>⟨ob.slots,k b ob q⟩,fun _ _ _ n _=>n,fun b ob q _=>⟨ob,k b ob q⟩,fun _ _ q=>q,fun _ _ _ q=>q,fun _ ps q=>⟨#[],by rw [q]; simp⟩⟩
theorem Un.refl:Un fs ex H H h h:=Un.kept fun _ _ q=>q
theorem Un.laid(k:∀ b u,h.get? b=some u→h'.get? b=some u)(hp:h.objs.size≤a)(hn:H a=none):Un fs ex H (upd H a o) h h' where
 keep:=fun b u q _ _ _=>k b u q
 slot:=fun b u q _ _ _=>⟨u.slots,k b u q⟩
 free:=fun b u q n _=>by rw [ae (YT (Y2 (YF q) hp))]; exact n
 there:=fun b u q _=>⟨u,k b u q⟩
 tups:=fun b xs q=>by rw [ae (af q hn)]; exact q
 frzs:=fun b u xs q=>by rw [ae (af q hn)]; exact q
 tbls:=fun b ps q=>⟨#[],by rw [ae (af q hn),q]; simp⟩
theorem Un.write(mu:Mut (H x))(he:e=x∨H e=some (.own x))(k:∀ b u,b≠e→h.get? b=some u→h'.get? b=some u)(heo:∃ u,h'.get? e=some u):Un fs ex H (upd H x o) h h':=by
 have hx:∀ b,H b=none→b≠x:=fun b n z=>by subst z; rw [n] at mu; exact mu
 have hb:∀ b,H b=none→b≠e:=fun b n z=>by
  subst z
  rcases he with r | r
  ·exact hx b n r
  ·rw [n] at r; cases r
 have hm:∀ b u,H b=some u→¬ Mut (some u)→b≠x:=fun b u q nm z=>by subst z; rw [q] at mu; exact nm mu
 refine⟨fun b u q n _ _=>k b u (hb b n) q,fun b u q n _ _=>⟨u.slots,k b u (hb b n) q⟩,fun b u q n _=>by rw [ae (hx b n)]; exact n,fun b u q _=>?_,
  fun b xs q=>by rw [ae (hm b _ q fun z=>z)]; exact q,fun b u xs q=>by rw [ae (hm b _ q fun z=>z)]; exact q,fun b ps q=>⟨#[],by rw [ae (hm b _ q fun z=>z),q]; simp⟩⟩
 by_cases hbe:b=e
 ·subst hbe; exact heo
 ·exact⟨u,k b u hbe q⟩
end
def trk(h:Heap)(H:Hp):List Addr:=(List.range h.objs.size).filter fun a=>(H a).isSome
def kY(h:Heap)(H:Hp):Heap:=PySem.W.hideAll h (trk h H)
theorem qK(h:Heap)(H:Hp):(kY h H).objs.size=h.objs.size:=PySem.W.hideAll_size _ _
theorem ur{h:Heap}{H:Hp}{b:Addr}{o:Obj}(e:h.get? b=some o)(n:H b=none):(kY h H).get? b=some o:=
 PySem.W.hideAll_get _ e fun hm=>by
  have q:(H b).isSome=true:=(List.mem_filter.mp hm).2
  rw [n] at q; simp at q
theorem vY{h:Heap}{H:Hp}{b:Addr}{o:Obj}(e:(kY h H).get? b=some o):h.get? b=some o∧H b=none:=by
 have e':h.get? b=some o:=PySem.W.of_hideAll (trk h H) e
 refine⟨e',?_⟩
 cases q:H b with
 | none=>rfl
 | some x=>
  have hm:b∈trk h H:=List.mem_filter.mpr ⟨List.mem_range.mpr (YF e'),by simp [q]⟩
  have z:(kY h H).get? b=none:=PySem.W.hideAll_none (trk h H) hm
  rw [z] at e; cases e
def wP(g h:Heap)(L:Addr):List (Addr×Obj):=(List.range h.objs.size).filterMap fun a=>if a=L∨(g.get? a).isSome=true then none else (h.get? a).map fun o=>(a,o)
def rest(g h:Heap)(L d:Addr):List (Addr×Obj):=(wP g h L).filter fun p=>decide (p.1≠d)
structure Mod(K:WB)(mg:Str→Option Value)(base:Heap):Prop where
 kin:K.In base
 glob:base.Ns mainGlobals mg
 blt:∃ mb,base.Ns builtinsNs mb∧∀ x:Str,x≠"__name__"→mb x=bootBuiltins x
 nolimit:base.NoLimit
 sys:∃ mm,base.Ns sysModules mm
structure Cx where
 prog:Program
 w:World
 K:WB
 mg:Str→Option Value
 base:Heap
 A:Around
 N:List Str
 s₀:Shared
 H₀:Hp
 env:Env
 outer:List Env
 stack:List Env
 ex:List Addr
 fn:Str→Bool
 calm:Bool
 pn:List (Addr×Obj)
 xe:Value→Shared→Prop
def frs(l:List Env):List Addr:=l.filterMap (·.frame)
abbrev Cx.fs(X:Cx):List Addr:=frs X.outer
def Vis(sc:Scope)(x:Str):Prop:=sc.names.lookup x=some .local∨sc.names.lookup x=some .cell∨sc.names.lookup x=some .free
def Loc(sc:Scope)(x:Str):Prop:=sc.names.lookup x=some .local∨sc.names.lookup x=some .cell
def AE(env:Env)(h:Heap)(m:Str→Option Value)(x:Str)(u:Value):Prop:=
 (env.kindOf x=some .local∧m x=some u)∨((env.kindOf x=some .cell∨env.kindOf x=some .free)∧∃ c,env.cells.lookup x=some c∧h.IsCell c (some u))
structure Cx.Ok(X:Cx):Prop where
 mod:Mod X.K X.mg X.base
 kind:X.env.scope.kind=.function
 glob:X.env.globals=mainGlobals
 blt:X.env.builtins=builtinsNs
 above:X.s₀.heap.objs.size≤X.env.locals
 inj:∀ x y c,X.env.cells.lookup x=some c→X.env.cells.lookup y=some c→x=y
 has:∀ x,(X.env.kindOf x=some .cell∨X.env.kindOf x=some .free)→∃ c,X.env.cells.lookup x=some c
 cab:∀ x c,X.fn x=true→X.env.cells.lookup x=some c→X.s₀.heap.objs.size≤c
 hd:X.calm=true→X.A.handled=none
 frames:X.A.frames=some X.stack
 stk:X.stack=X.outer∨(X.stack=X.env::X.outer∧X.env.frame=some X.env.locals)
 exf:∀ b∈X.ex,b≠X.env.locals∧∀ x c,X.env.cells.lookup x=some c→c≠b
 bs:∀ b o,X.base.get? b=some o→X.s₀.heap.get? b=some o∧X.H₀ b=none
 bsz:X.base.objs.size≤X.s₀.heap.objs.size
 noex:∀ b o,X.base.get? b=some o→b∉X.ex
 exfs:∀ b∈X.ex,b∉X.fs
 funs:X.s₀.heap.FunFrames X.base X.outer
 frf:∀ b∈X.fs,X.H₀ b=none
structure Inv(X:Cx)(pins:List (Addr×Obj))(σ:List (Option V))(H:Hp)(s:Shared):Prop where
 ok:X.Ok
 os:s.os=X.s₀.os
 bare:AllBare s.gens
 base:Un X.fs X.ex X.H₀ H X.s₀.heap s.heap
 loc:∃ m,s.heap.Ns X.env.locals m∧∀ (i:Nat) (x:Str) (v:V),X.N[i]? = some x→σ[i]? = some (some v)→Vis X.env.scope x→∃ u,ar v u∧AE X.env s.heap m x u
 cell:∀ x c,X.env.cells.lookup x=some c→∃ v,s.heap.IsCell c v
 free:H X.env.locals=none
 freeC:∀ x c,X.env.cells.lookup x=some c→H c=none
 pin:∀ p∈X.pn++pins,s.heap.get? p.1=some p.2∧H p.1=none∧p.1≠X.env.locals∧p.1∉X.fs∧∀ v,p.2.data≠.cell v
 hok:HOk X.prog X.w H s.heap
 len:σ.length=X.N.length
section
variable{X:Cx}{pins:List (Addr×Obj)}{σ:List (Option V)}{H H':Hp}{s:Shared}{h':Heap}
theorem Cx.Ok.nofr(ok:X.Ok){b:Addr}{o:Obj}(e:X.base.get? b=some o):b∉X.fs:=fun hb=>by
 have:=(ok.funs.mem hb).1
 rw [e] at this; cases this
theorem Inv.bs(I:Inv X pins σ H s):∀ b o,X.base.get? b=some o→s.heap.get? b=some o∧H b=none:=fun b o e=>
 ⟨I.base.keep b o (I.ok.bs b o e).1 (I.ok.bs b o e).2 (I.ok.nofr e) (I.ok.noex b o e),I.base.free b o (I.ok.bs b o e).1 (I.ok.bs b o e).2 (I.ok.noex b o e)⟩
theorem Inv.bk(I:Inv X pins σ H s):∀ b o,X.base.get? b=some o→s.heap.get? b=some o:=fun b o e=>(I.bs b o e).1
theorem Inv.mod(I:Inv X pins σ H s):Mod X.K X.mg X.base:=I.ok.mod
theorem Inv.kIn(I:Inv X pins σ H s):X.K.In s.heap:=I.ok.mod.kin.keeps I.bk
theorem Inv.lt(I:Inv X pins σ H s):X.env.locals<s.heap.objs.size:=let ⟨_,hn,_⟩:=I.loc; hn.lt
theorem Inv.sz(I:Inv X pins σ H s):X.s₀.heap.objs.size≤s.heap.objs.size:=YE I.ok.above (Nat.le_of_lt I.lt)
theorem Inv.nofs(I:Inv X pins σ H s){a:Addr}(h:s.heap.objs.size≤a):a∉X.fs:=fun hb=>by
 obtain⟨_,o,ho,_⟩:=I.ok.funs.mem hb
 exact absurd (Y2 (YF ho) (YE I.sz h)) (Nat.lt_irrefl _)
theorem Inv.cne(I:Inv X pins σ H s):∀ x c,X.env.cells.lookup x=some c→c≠X.env.locals:=fun x c e z=>by
 obtain⟨v,o,ho,hd⟩:=I.cell x c e
 obtain⟨m,⟨o',es,ep,ho',hd',_⟩,_⟩:=I.loc
 rw [z,ho'] at ho; cases ho; rw [hd'] at hd; cases hd
theorem Inv.funs(I:Inv X pins σ H s):s.heap.FunFrames X.base X.outer:=by
 have all:∀ (l:List Env),(∀ b∈frs l,b∈X.fs)→X.s₀.heap.FunFrames X.base l→s.heap.FunFrames X.base l:=by
  intro l
  induction l with
  | nil=>intro _ _; trivial
  | cons env r ih=>
   intro hs hl
   obtain⟨hk,⟨L,o,hf,hn,ho,hd⟩,hr⟩:=hl
   have hL:L∈X.fs:=hs L (by unfold frs; rw [List.filterMap_cons,hf]; exact YX)
   obtain⟨sl,e⟩:=I.base.slot L o ho (I.ok.frf L hL) hL fun z=>I.ok.exfs L z hL
   exact⟨hk,⟨L,_,hf,hn,e,hd⟩,ih (fun b hb=>hs b (by unfold frs; rw [List.filterMap_cons,hf]; exact Y0 _ hb)) hr⟩
 exact all X.outer (fun _ hb=>hb) I.ok.funs
theorem Inv.stack(I:Inv X pins σ H s):s.heap.FunFrames X.base X.stack:=by
 rcases I.ok.stk with e | ⟨e,hf⟩
 ·rw [e]; exact I.funs
 ·rw [e]
  obtain⟨m,hn,_⟩:=I.loc
  refine .cons (by rw [I.ok.kind]; decide) hf hn ?_ I.funs
  exact X8 (YE I.ok.bsz I.ok.above)
theorem Inv.stkSub(I:Inv X pins σ H s):∀ b∈frs X.stack,b∈X.env.locals::X.fs:=fun b hb=>by
 rcases I.ok.stk with e | ⟨e,hf⟩
 ·rw [e] at hb; exact Y0 _ hb
 ·rw [e] at hb
  unfold frs at hb
  rw [List.filterMap_cons,hf] at hb
  exact hb
theorem Inv.stkFree(I:Inv X pins σ H s):∀ b∈frs X.stack,H b=none:=fun b hb=>by
 rcases YM.mp (I.stkSub b hb) with e | hb
 ·rw [e]; exact I.free
 ·obtain⟨_,o,ho,_⟩:=I.ok.funs.mem hb
  exact I.base.free b o ho (I.ok.frf b hb) fun z=>I.ok.exfs b z hb
theorem Inv.step{g':Array GenState}{t':Nat}{d':Drawn}{ch:List Addr}(I:Inv X pins σ H s)
  (hch:∀ b∈ch,(b∈X.ex∨X.s₀.heap.objs.size≤b)∧b≠X.env.locals∧(∀ x c,X.env.cells.lookup x=some c→c≠b)∧∀ p∈X.pn++pins,p.1≠b)
  (keep:∀ b o,b≠X.env.locals→b∉X.fs→b∉ch→s.heap.get? b=some o→H b=none→h'.get? b=some o)
  (slot:∀ b o,b≠X.env.locals→b∈X.fs→b∉ch→s.heap.get? b=some o→H b=none→∃ sl,h'.get? b=some {o with slots:=sl}) (free:∀ b o,b∉ch→s.heap.get? b=some o→H b=none→H' b=none)
  (there:∀ b o,b∉ch→s.heap.get? b=some o→∃ o',h'.get? b=some o')
  (tups:∀ b xs,H b=some (.tup xs)→H' b=some (.tup xs)) (frzs:∀ b o u,H b=some (.frz o u)→H' b=some (.frz o u)) (tbls:∀ b ps,H b=some (.tbl ps)→∃ more,H' b=some (.tbl (ps++more)))
  (ns:∀ m,s.heap.Ns X.env.locals m→h'.Ns X.env.locals m) (hok:HOk X.prog X.w H' h') (hg:AllBare g') :
  Inv X pins σ H' {s with heap:=h',gens:=g',drawn:=d',toks:=t'}:=by
 have neL:∀ b o,X.s₀.heap.get? b=some o→b≠X.env.locals:=fun b o e=>YT (Y2 (YF e) I.ok.above)
 have neC:∀ b o,X.s₀.heap.get? b=some o→b∉X.ex→b∉ch:=fun b o e hx hb=>by
  rcases(hch b hb).1 with z | z
  ·exact hx z
  ·exact absurd (Y2 (YF e) z) (Nat.lt_irrefl _)
 have cellK:∀ x c,X.env.cells.lookup x=some c→∀ v,s.heap.IsCell c v→h'.IsCell c v:=fun x c e v ⟨o,ho,hd⟩=>by
  have nch:c∉ch:=fun z=>(hch c z).2.2.1 x c e rfl
  by_cases hc:c∈X.fs
  ·obtain⟨sl,q⟩:=slot c o (I.cne x c e) hc nch ho (I.freeC x c e)
   exact⟨_,q,hd⟩
  ·exact⟨o,keep c o (I.cne x c e) hc nch ho (I.freeC x c e),hd⟩
 refine⟨I.ok,I.os,hg,⟨fun b o e n hb hx=>?_,fun b o e n hb hx=>?_,fun b o e n hx=>?_,fun b o e hx=>?_,fun b xs e=>tups b xs (I.base.tups b xs e),fun b o xs e=>frzs b o xs (I.base.frzs b o xs e),fun b ps e=>?_⟩,?_,fun x c e=>?_,?_,fun x c e=>?_,fun p hp=>?_,hok,I.len⟩
 ·exact keep b o (neL b o e) hb (neC b o e hx) (I.base.keep b o e n hb hx) (I.base.free b o e n hx)
 ·obtain⟨sl,e1⟩:=I.base.slot b o e n hb hx
  obtain⟨sl',e2⟩:=slot b _ (neL b o e) hb (neC b o e hx) e1 (I.base.free b o e n hx)
  exact⟨sl',e2⟩
 ·obtain⟨o',e1⟩:=I.base.there b o e hx
  exact free b o' (neC b o e hx) e1 (I.base.free b o e n hx)
 ·obtain⟨o',e1⟩:=I.base.there b o e hx
  exact there b o' (neC b o e hx) e1
 ·obtain⟨m1,e1⟩:=I.base.tbls b ps e
  obtain⟨m2,e2⟩:=tbls b _ e1
  exact⟨m1++m2,by rw [e2,Array.append_assoc]⟩
 ·obtain⟨m,hn,hl⟩:=I.loc
  refine⟨m,ns m hn,fun i x v e1 e2 e3=>?_⟩
  obtain⟨u,r,l⟩:=hl i x v e1 e2 e3
  refine⟨u,r,?_⟩
  rcases l with l | ⟨k,c,e,z⟩
  ·exact .inl l
  ·exact .inr ⟨k,c,e,cellK x c e _ z⟩
 ·obtain⟨v,z⟩:=I.cell x c e
  exact⟨v,cellK x c e v z⟩
 ·obtain⟨m,⟨o,_,_,ho,_⟩,_⟩:=I.loc
  exact free _ o (fun z=>(hch _ z).2.1 rfl) ho I.free
 ·obtain⟨v,o,ho,hd⟩:=I.cell x c e
  exact free c o (fun z=>(hch c z).2.2.1 x c e rfl) ho (I.freeC x c e)
 ·obtain⟨e,n,ne,nf,d⟩:=I.pin p hp
  have nch:p.1∉ch:=fun z=>(hch p.1 z).2.2.2 p hp rfl
  exact⟨keep p.1 p.2 ne nf nch e n,free p.1 p.2 nch e n,ne,nf,d⟩
theorem Inv.un{t':Nat}(I:Inv X pins σ H s)(u:Un X.fs [] H H' s.heap h')(hok:HOk X.prog X.w H' h'):Inv X pins σ H' {s with heap:=h',toks:=t'}:=by
 obtain⟨m,⟨o,es,ep,ho,r⟩,_⟩:=id I.loc
 obtain⟨sl,hL⟩:=u.any ho I.free (by simp)
 exact I.step (g':=s.gens) (d':=s.drawn) (ch:=[]) (fun _ z=>nomatch z) (fun b o _ hb _ e n=>u.keep b o e n hb (by simp)) (fun b o _ hb _ e n=>u.slot b o e n hb (by simp)) (fun b o _ e n=>u.free b o e n (by simp)) (fun b o _ e=>u.there b o e (by simp)) u.tups u.frzs u.tbls (fun m' hm=>by
  obtain⟨o',es',ep',ho',r'⟩:=hm
  rw [ho] at ho'; cases ho'
  exact⟨_,es',ep',hL,r'⟩) hok I.bare
theorem Inv.call{g':Array GenState}{t':Nat}{d':Drawn}{ch:List Addr}(I:Inv X pins σ H s)(u:Un (frs X.stack) ch H H' s.heap h')(hok:HOk X.prog X.w H' h')(hg:AllBare g')
  (hch:∀ b∈ch,(b∈X.ex∨X.s₀.heap.objs.size≤b)∧b≠X.env.locals∧(∀ x c,X.env.cells.lookup x=some c→c≠b)∧∀ p∈X.pn++pins,p.1≠b) :
  Inv X pins σ H' {s with heap:=h',gens:=g',drawn:=d',toks:=t'}:=by
 obtain⟨m,⟨o,es,ep,ho,r⟩,_⟩:=id I.loc
 obtain⟨sl,hL⟩:=u.any ho I.free fun z=>(hch _ z).2.1 rfl
 exact I.step (ch:=ch) hch (fun b o hL hb hc e n=>u.keep b o e n (fun z=>(YM.mp (I.stkSub b z)).elim hL hb) hc) (fun b o _ _ hc e n=>u.any e n hc) (fun b o hc e n=>u.free b o e n hc) (fun b o hc e=>u.there b o e hc) u.tups u.frzs u.tbls (fun m' hm=>by
  obtain⟨o',es',ep',ho',r'⟩:=hm
  rw [ho] at ho'; cases ho'
  exact⟨_,es',ep',hL,r'⟩) hok hg
theorem Inv.turned{t':Nat}{it:Addr}(I:Inv X pins σ H s)(k:∀ b o,b≠it→s.heap.get? b=some o→h'.get? b=some o)(hn:H it=none)(hL:it≠X.env.locals)
  (h1:it∈X.ex∨X.s₀.heap.objs.size≤it) (h2:∀ x c,X.env.cells.lookup x=some c→c≠it) (h3:∀ p∈X.pn++pins,p.1≠it):Inv X pins σ H {s with heap:=h',toks:=t'}:=by
 have nit:∀ b u,H b=some u→b≠it:=fun b u e z=>by rw [z,hn] at e; cases e
 refine I.step (g':=s.gens) (d':=s.drawn) (ch:=[it]) (fun b hb=>?_) (fun b o _ _ hc e _=>k b o (fun z=>hc (by simp [z])) e) (fun b o _ _ hc e _=>⟨o.slots,k b o (fun z=>hc (by simp [z])) e⟩) (fun _ _ _ _ n=>n)
  (fun b o hc e=>⟨o,k b o (fun z=>hc (by simp [z])) e⟩) (fun _ _ e=>e) (fun _ _ _ e=>e) (fun b ps e=>⟨#[],by rw [e]; simp⟩) (fun m hm=>?_) (fun b u e=>?_) I.bare
 ·have e:b=it:=by simpa using hb
  subst e
  exact⟨h1,hL,h2,h3⟩
 ·obtain⟨o,es,ep,ho,r⟩:=hm
  exact⟨o,es,ep,k _ o (Ne.symm hL) ho,r⟩
 ·refine(I.hok b u e).stay (fun c v hc q=>k c v ?_ q) (fun _ q=>q) fun _ _ q=>q
  rcases hc with z | z
  ·rw [z]; exact nit b u e
  ·exact nit c _ z
theorem Inv.tok(I:Inv X pins σ H s)(t:Nat):Inv X pins σ H {s with toks:=t}:=I.un (h':=s.heap) (t':=t) Un.refl I.hok
theorem Inv.kept{t':Nat}(I:Inv X pins σ H s)(k:∀ b u,s.heap.get? b=some u→h'.get? b=some u):Inv X pins σ H {s with heap:=h',toks:=t'}:=I.un (Un.kept k) (I.hok.kept k)
theorem Inv.laid{a:Addr}{o:HO}{t':Nat}(I:Inv X pins σ H s)(k:∀ b u,s.heap.get? b=some u→h'.get? b=some u)(hp:s.heap.objs.size≤a)(new:aM X.prog X.w (upd H a o) h' a o):
  Inv X pins σ (upd H a o) {s with heap:=h',toks:=t'}:=I.un (Un.laid k hp (I.hok.fresh hp)) (I.hok.laid k hp new)
theorem Inv.write{x e:Addr}{o:HO}{t':Nat}(I:Inv X pins σ H s)(mu:Mut (H x))(he:e=x∨H e=some (.own x))(k:∀ b u,b≠e→s.heap.get? b=some u→h'.get? b=some u)(heo:∃ u,h'.get? e=some u)
  (new:aM X.prog X.w (upd H x o) h' x o):Inv X pins σ (upd H x o) {s with heap:=h',toks:=t'}:=I.un (Un.write mu he k heo) (I.hok.write mu he k heo new)
theorem Inv.pins_of{pins':List (Addr×Obj)}(I:Inv X pins σ H s)(h:∀ p∈pins',s.heap.get? p.1=some p.2∧H p.1=none∧p.1≠X.env.locals∧p.1∉X.fs∧∀ v,p.2.data≠.cell v):Inv X pins' σ H s:=
 ⟨I.ok,I.os,I.bare,I.base,I.loc,I.cell,I.free,I.freeC,fun p hp=>(Y3.mp hp).elim (fun z=>I.pin p (XC _ z)) (h p),I.hok,I.len⟩
theorem ja{N:List Str}(hN:N.Nodup){i j:Nat}{x:Str}(a:N[i]? = some x)(b:N[j]? = some x):i=j:=by
 obtain⟨h1,e1⟩:=YV.mp a
 obtain⟨h2,e2⟩:=YV.mp b
 exact(List.getElem_inj hN).mp (e1.trans e2.symm)
theorem gU{M:Model}{A:Around}{E:Value→Shared→Prop}{i:Nat}{x:Str}{v:V}{u:Value}{Q:Unit→Shared→Prop}(I:Inv X pins σ H s)(hN:X.N.Nodup)(hi:X.N[i]? = some x)(hx:Loc X.env.scope x)(r:ar v u)
  (h:∀ s',Inv X pins (σ.set i (some v)) H s'→(∃ a,XI a s.heap s'.heap∧(a=X.env.locals∨X.env.cells.lookup x=some a))→Q () s') (hf:X.fn x=true∨X.env.scope.names.lookup x=some .local:=by first | exact .inl rfl | exact .inr rfl | assumption):wpAny M A (storeName X.env x u) Q E s:=by
 obtain⟨m,hn,hl⟩:=id I.loc
 have hcls:(X.env.scope.kind==.class||(X.env.scope.kind==.module&&X.env.locals != X.env.globals))=false:=by rw [I.ok.kind]; rfl
 have hiσ:i<σ.length:=by rw [I.len]; exact(YV.mp hi).1
 have cne:=I.cne
 have tracked:∀ {a:Addr} {h':Heap},(∃ o,s.heap.get? a=some o∧H a=none)→XI a s.heap h'→HOk X.prog X.w H h':=fun {a h'} ha hs b ob e=>by
  obtain⟨_,_,hfree⟩:=ha
  refine(I.hok b ob e).stay (fun c w' hc q=>(hs.2 c ?_).trans q) (fun _ q=>q) fun _ _ q=>q
  rintro rfl
  rcases hc with rfl | hc
  ·rw [hfree] at e; cases e
  ·rw [hfree] at hc; cases hc
 rcases hx with hk | hk
 ·refine wpAny_storeName_local hk hn (fun h' hn' hs=>?_) hcls
  obtain⟨oL,_,_,hoL,_⟩:=id hn
  refine h _ ⟨I.ok,I.os,I.bare,⟨fun b o e n hb hx=>?_,fun b o e n hb hx=>?_,I.base.free,fun b o e hx=>?_,I.base.tups,I.base.frzs,I.base.tbls⟩,⟨_,hn',fun j y v' e1 e2 e3=>?_⟩,fun y c e=>?_,I.free,I.freeC,fun p hp=>?_,tracked ⟨oL,hoL,I.free⟩ hs,by simpa using I.len⟩ ⟨_,hs,.inl rfl⟩
  ·exact(hs.2 b (YT (Y2 (YF e) I.ok.above))).trans (I.base.keep b o e n hb hx)
  ·obtain⟨sl,e1⟩:=I.base.slot b o e n hb hx
   exact⟨sl,(hs.2 b (YT (Y2 (YF e) I.ok.above))).trans e1⟩
  ·obtain⟨o',e1⟩:=I.base.there b o e hx
   exact⟨o',(hs.2 b (YT (Y2 (YF e) I.ok.above))).trans e1⟩
  ·by_cases hj:j=i
   ·subst hj
    rw [hi] at e1; cases e1
    rw [List.getElem?_set_self hiσ] at e2
    cases e2
    exact⟨u,r,.inl ⟨hk,by simp⟩⟩
   ·rw [List.getElem?_set_ne (Ne.symm hj)] at e2
    obtain⟨u',r',q⟩:=hl j y v' e1 e2 e3
    refine⟨u',r',?_⟩
    rcases q with ⟨k,e⟩ | ⟨k,c,e,z⟩
    ·refine .inl ⟨k,?_⟩
     have : y≠x:=fun e=>hj (ja hN e1 (e▸hi))
     simp [this,e]
    ·exact .inr ⟨k,c,e,z.sameBut hs (cne y c e)⟩
  ·obtain⟨w',z⟩:=I.cell y c e
   exact⟨w',z.sameBut hs (cne y c e)⟩
  ·obtain⟨e,n,ne,nf,d⟩:=I.pin p hp
   exact⟨(hs.2 p.1 ne).trans e,n,ne,nf,d⟩
 ·have hfn:X.fn x=true:=by
   rcases hf with z | z
   ·exact z
   ·rw [z] at hk; cases hk
  obtain⟨c,hc⟩:=I.ok.has x (.inl hk)
  obtain⟨w',z⟩:=I.cell x c hc
  refine wpAny_storeName_cell I.ok.kind hk hc z (fun h' hc' hs=>?_)
  obtain⟨oc,hoc,hocd⟩:=id z
  refine h {s with heap:=h'} ⟨I.ok,I.os,I.bare,⟨fun b o e n hb hx=>?_,fun b o e n hb hx=>?_,I.base.free,fun b o e hx=>?_,I.base.tups,I.base.frzs,I.base.tbls⟩,⟨m,hn.sameBut hs (Ne.symm (cne x c hc)),fun j y v' e1 e2 e3=>?_⟩,fun y c' e=>?_,I.free,I.freeC,fun p hp=>?_,tracked ⟨oc,hoc,I.freeC x c hc⟩ hs,by simpa using I.len⟩ ⟨c,hs,.inr hc⟩
  ·exact(hs.2 b (YT (Y2 (YF e) (I.ok.cab x c hfn hc)))).trans (I.base.keep b o e n hb hx)
  ·obtain⟨sl,e1⟩:=I.base.slot b o e n hb hx
   exact⟨sl,(hs.2 b (YT (Y2 (YF e) (I.ok.cab x c hfn hc)))).trans e1⟩
  ·obtain⟨o',e1⟩:=I.base.there b o e hx
   exact⟨o',(hs.2 b (YT (Y2 (YF e) (I.ok.cab x c hfn hc)))).trans e1⟩
  ·by_cases hj:j=i
   ·subst hj
    rw [hi] at e1; cases e1
    rw [List.getElem?_set_self hiσ] at e2
    cases e2
    exact⟨u,r,.inr ⟨.inl hk,c,hc,hc'⟩⟩
   ·rw [List.getElem?_set_ne (Ne.symm hj)] at e2
    obtain⟨u',r',q⟩:=hl j y v' e1 e2 e3
    refine⟨u',r',?_⟩
    rcases q with q | ⟨k,c',e,z'⟩
    ·exact .inl q
    ·refine .inr ⟨k,c',e,z'.sameBut hs ?_⟩
     rintro rfl
     exact hj (ja hN e1 (I.ok.inj _ _ _ e hc▸hi))
  ·by_cases hcc:c'=c
   ·subst hcc; exact⟨_,hc'⟩
   ·obtain⟨w2,z2⟩:=I.cell y c' e
    exact⟨w2,z2.sameBut hs hcc⟩
  ·obtain⟨e,n,ne,nf,d⟩:=I.pin p hp
   refine⟨(hs.2 p.1 ?_).trans e,n,ne,nf,d⟩
   intro q
   rw [q,hoc] at e
   have q':oc=p.2:=Option.some.inj e
   exact d w' (by rw [← q']; exact hocd)
theorem dS{M:Model}{A:Around}{E:Value→Shared→Prop}{i:Nat}{x:Str}{v:V}{u:Value}{Q:Unit→Shared→Prop}(I:Inv X pins σ H s)(hN:X.N.Nodup)(hi:X.N[i]? = some x)(hx:Loc X.env.scope x)(r:ar v u)
  (h:∀ s',Inv X pins (σ.set i (some v)) H s'→Q () s') (hf:X.fn x=true∨X.env.scope.names.lookup x=some .local:=by first | exact .inl rfl | exact .inr rfl | assumption):wpAny M A (storeName X.env x u) Q E s:=
 gU I hN hi hx r (fun s' I' _=>h s' I') hf
theorem Inv.call'{s':Shared}{ch:List Addr}(I:Inv X pins σ H s)(ho:s'.os=s.os)(u:Un (frs X.stack) ch H H' s.heap s'.heap)(hok:HOk X.prog X.w H' s'.heap)(hg:AllBare s'.gens)
  (hch:∀ b∈ch,(b∈X.ex∨X.s₀.heap.objs.size≤b)∧b≠X.env.locals∧(∀ x c,X.env.cells.lookup x=some c→c≠b)∧∀ p∈X.pn++pins,p.1≠b):Inv X pins σ H' s':=by
 obtain⟨h',g',d',t',o'⟩:=s'
 have e:o'=s.os:=ho
 subst e
 exact I.call (g':=g') (t':=t') (d':=d') u hok hg hch
end
abbrev XK:=Value→Option Addr→Hp→Prop
abbrev St:=List (Option V)
abbrev VK:=V→Hp→Prop
abbrev TE:=St→Hp→VK→Prop
abbrev TT:=St→Hp→(Bool→Hp→Prop)→Prop
abbrev TA:=St→Hp→(List V→Hp→Prop)→Prop
structure gO where
 nx:St→Hp→Prop
 rt:VK
 bk:St→Hp→Prop:=fun _ _=>False
 ct:St→Hp→Prop:=fun _ _=>False
abbrev TS:=gO→St→Hp→Prop
def EP(X:Cx)(pins:List (Addr×Obj))(σ:St)(Q:VK)(u:Value)(s':Shared):Prop:=∃ v H',Inv X pins σ H' s'∧ar v u∧Q v H'
def TP(X:Cx)(pins:List (Addr×Obj))(σ:St)(Q:Bool→Hp→Prop)(b:Bool)(s':Shared):Prop:=∃ H',Inv X pins σ H' s'∧Q b H'
def AP(X:Cx)(pins:List (Addr×Obj))(σ:St)(Q:List V→Hp→Prop)(us:List Value)(s':Shared):Prop:=∃ vs H',Inv X pins σ H' s'∧ax vs us∧Q vs H'
def SP(X:Cx)(pins:List (Addr×Obj))(D:gO)(f:Flow)(s':Shared):Prop:=
 match f with
 | .next=>∃ σ' H',Inv X pins σ' H' s'∧D.nx σ' H'
 | .brk=>∃ σ' H',Inv X pins σ' H' s'∧D.bk σ' H'
 | .cont=>∃ σ' H',Inv X pins σ' H' s'∧D.ct σ' H'
 | .ret u=>∃ v σ' H',Inv X pins σ' H' s'∧ar v u∧D.rt v H'
def PE(X:Cx)(e:Expr)(t:TE):Prop:=
 ∀ (pins:List (Addr×Obj)) (s:Shared) (σ:St) (H:Hp) (Q:VK),Inv X pins σ H s→t σ H Q→wpAny (model X.prog X.w) X.A (eval e X.env) (EP X pins σ Q) X.xe s
def PT(X:Cx)(e:Expr)(t:TT):Prop:=
 ∀ (pins:List (Addr×Obj)) (s:Shared) (σ:St) (H:Hp) (Q:Bool→Hp→Prop),Inv X pins σ H s→t σ H Q→wpAny (model X.prog X.w) X.A (isTrue e X.env (eval e X.env)) (TP X pins σ Q) X.xe s
def PW(X:Cx)(e:Expr)(t:TT):Prop:=
 ∀ (whole:Sem Value) (pins:List (Addr×Obj)) (s:Shared) (σ:St) (H:Hp) (Q:Bool→Hp→Prop),Inv X pins σ H s→t σ H Q→wpAny (model X.prog X.w) X.A (isTrue e X.env whole) (TP X pins σ Q) X.xe s
theorem PW.pt{X:Cx}{e:Expr}{t:TT}(h:PW X e t):PT X e t:=h _
def PA(X:Cx)(es:List Expr)(t:TA):Prop:=
 ∀ (pos:Pos) (pins:List (Addr×Obj)) (s:Shared) (σ:St) (H:Hp) (Q:List V→Hp→Prop),Inv X pins σ H s→t σ H Q→wpAny (model X.prog X.w) X.A (spliced (backTo pos (starEach es X.env))) (AP X pins σ Q) X.xe s
def PS(X:Cx)(st:Stmt)(t:TS):Prop:=
 ∀ (pins:List (Addr×Obj)) (s:Shared) (σ:St) (H:Hp) (D:gO),Inv X pins σ H s→t D σ H→wpAny (model X.prog X.w) X.A (exec st X.env) (SP X pins D) X.xe s
def PSs(X:Cx)(st:List Stmt)(t:TS):Prop:=
 ∀ (pins:List (Addr×Obj)) (s:Shared) (σ:St) (H:Hp) (D:gO),Inv X pins σ H s→t D σ H→wpAny (model X.prog X.w) X.A (execs st X.env) (SP X pins D) X.xe s
theorem thn{α:Type}{t:Sem α}{Q Q':α→Shared→Prop}{M:Model}{A:Around}{E:Value→Shared→Prop}{s:Shared}(h:wpAny M A t Q E s)(hQ:∀ a s,Q a s→Q' a s):wpAny M A t Q' E s:=YH h hQ fun _ _ x=>x
section
variable{X:Cx}
inductive tVar(i:Nat)(σ:St)(H:Hp)(Q:VK):Prop | mk (v) (_:σ[i]? = some (some v)) (_:Q v H)
def tC(v:V):TE:=fun _ H Q=>Q v H
theorem sF{i:Nat}{x:Str}{pos:Pos}(hN:X.N[i]? = some x)(hv:Vis X.env.scope x)(hd:(x==("__debug__":Str))=false:=by decide)(hcd:(x==("__classdict__":Str))=false:=by decide):PE X (.Name x pos) (tVar i):=by
 intro pins s σ H Q I h
 obtain⟨v,e,h⟩:=h
 obtain⟨m,hn,hl⟩:=I.loc
 obtain⟨u,r,l⟩:=hl i x v hN e hv
 have fin:EP X pins σ Q u s:=⟨v,H,I,r,h⟩
 rcases l with ⟨hk,hm⟩ | ⟨hk,c,hc,hcell⟩
 ·exact wpAny_Name (wpAny_loadName_local I.ok.kind hk hn hm fin) hd
 ·rcases hk with hk | hk
  ·exact wpAny_Name (wpAny_loadName_cell I.ok.kind hk hc hcell fin) hd
  ·exact wpAny_Name (wpAny_loadName_free I.ok.kind hk hc hcell fin hcd) hd
theorem aX{i j pos}:PE X (.Constant (.int i) j pos) (tC (.int i)):=fun _ _ _ H _ I h=>wpAny_Constant_int ⟨.int i,H,I.tok _,⟨_,rfl⟩,h⟩
theorem eC{b j pos}:PE X (.Constant (.bool b) j pos) (tC (.bl b)):=fun _ _ _ H _ I h=>Constant_bool ⟨.bl b,H,I,rfl,h⟩
theorem hJ{j pos}:PE X (.Constant .none j pos) (tC .non):=fun _ _ _ H _ I h=>Constant_none ⟨.non,H,I,rfl,h⟩
theorem aA{x j pos}:PE X (.Constant (.str x) j pos) (tC (.str x)):=fun _ _ _ H _ I h=>Calls.Constant_str ⟨.str x,H,I.tok _,⟨_,rfl⟩,h⟩
def Gl(X:Cx)(x:Str):Prop:=X.env.kindOf x=some .globalImplicit
theorem fE{E:Value→Shared→Prop}{pins:List (Addr×Obj)}{s:Shared}{σ:St}{H:Hp}{x:Str}{u:Value}{pos:Pos}{Q:Value→Shared→Prop}(I:Inv X pins σ H s)(hg:Gl X x)(hm:X.mg x=some u)(h:Q u s)
  (hd:(x==("__debug__":Str))=false:=by decide):wpAny (model X.prog X.w) X.A (eval (.Name x pos) X.env) Q E s:=
 Calls.Name_function_global I.ok.kind hg (Calls.loadGlobal_global (by rw [I.ok.glob]; exact I.mod.glob.keeps I.bk) hm h) hd
theorem je{E:Value→Shared→Prop}{pins:List (Addr×Obj)}{s:Shared}{σ:St}{H:Hp}{x:Str}{u:Value}{pos:Pos}{Q:Value→Shared→Prop}(I:Inv X pins σ H s)(hg:Gl X x)(hm:X.mg x=none)(hv:bootBuiltins x=some u)(h:Q u s)
  (hn:x≠"__name__":=by decide) (hd:(x==("__debug__":Str))=false:=by decide):wpAny (model X.prog X.w) X.A (eval (.Name x pos) X.env) Q E s:=by
 obtain⟨mb,h1,h2⟩:=I.mod.blt
 exact Calls.Name_function_global I.ok.kind hg (Calls.loadGlobal_builtin (by rw [I.ok.glob]; exact I.mod.glob.keeps I.bk) hm (by rw [I.ok.blt]; exact h1.keeps I.bk) ((h2 x hn).trans hv) h) hd
theorem cJ{x:Str}{v:V}{u:Value}{pos:Pos}(hg:Gl X x)(hm:X.mg x=some u)(r:ar v u)(hd:(x==("__debug__":Str))=false:=by decide):PE X (.Name x pos) (tC v):=
 fun _ _ _ H _ I h=>fE I hg hm ⟨v,H,I,r,h⟩ hd
theorem eh{x:Str}{v:V}{u:Value}{pos:Pos}(hg:Gl X x)(hm:X.mg x=none)(hv:bootBuiltins x=some u)(r:ar v u)(hn:x≠"__name__":=by decide)(hd:(x==("__debug__":Str))=false:=by decide):PE X (.Name x pos) (tC v):=
 fun _ _ _ H _ I h=>je I hg hm hv ⟨v,H,I,r,h⟩ hn hd
variable{a b:Expr}{ta tb:TE}{pos:Pos}
def PC(X:Cx)(op:CmpOp)(a b:Expr)(t:TE):Prop:=
 ∀ (pins:List (Addr×Obj)) (s:Shared) (σ:St) (H:Hp) (Q:VK),Inv X pins σ H s→t σ H Q→
  wpAny (model X.prog X.w) X.A (eval a X.env) (fun v s₁=>wpAny (model X.prog X.w) X.A (eval b X.env) (fun u s₂=>wpAny (model X.prog X.w) X.A (compareOp op v u) (EP X pins σ Q) X.xe s₂) X.xe s₁) X.xe s
inductive tBI(Q:Bool→Hp→Prop)(x:V)(H1:Hp):Prop | mk (c) (_:x=.bl c) (_:Q c H1)
def tB(t:TE):TT:=fun σ H Q=>t σ H (tBI Q)
theorem xC{op:CmpOp}{t:TE}(h:PC X op a b t)(h1:behindInMarks op b=false:=by first | exact nobehind _ (by decide) (by decide) | rfl):PT X (.Compare a [op] [b] pos) (tB t):=by
 intro pins s σ H Q I hw
 refine wpAny_isTrue_Compare1 (thn (h pins s σ H _ I hw) fun v s1 h1=>thn h1 fun u s2 h2=>thn h2 fun c s3 ⟨x,H1,I1,r1,q1⟩=>?_) h1
 obtain⟨d,rfl,q⟩:=q1
 cases r1
 exact wpAny_truthy_bool ⟨H1,I1,q⟩
theorem kI{e:Expr}{t:TE}(h:PE X e t)(he:∀ whole,isTrue e X.env whole=(do let v ← whole; standAt e.pos; holding [v] (truthy v)):=by intro _; rfl):PT X e (tB t):=by
 intro pins s σ H Q I hw
 refine isTrue_plain (thn (h pins s σ H _ I hw) fun v s1 ⟨x,H1,I1,r1,q1⟩=>?_) (he _)
 obtain⟨d,rfl,q⟩:=q1
 cases r1
 exact wpAny_truthy_bool ⟨H1,I1,q⟩
variable{tA tB':TT}{rest:List Expr}
def zS(t u:TT):TT:=fun σ H Q=>t σ H fun c H1=>if c=true then u σ H1 Q else Q false H1
def tOr(t u:TT):TT:=fun σ H Q=>t σ H fun c H1=>if c=true then Q true H1 else u σ H1 Q
def zN(t:TT):TT:=fun σ H Q=>t σ H fun c H1=>Q (!c) H1
theorem vm(ha:PT X a tA):PW X (.BoolOp .And [a] pos) tA:=by
 intro wh pins s σ H Q I h
 refine isTrue_and (thn (ha pins s σ H Q I h) fun c s1 e=>?_)
 cases c with
 | true=>exact isTrue_and_nil e
 | false=>exact e
theorem kH(ha:PT X a tA):PW X (.BoolOp .Or [a] pos) tA:=by
 intro wh pins s σ H Q I h
 refine isTrue_or (thn (ha pins s σ H Q I h) fun c s1 e=>?_)
 cases c with
 | false=>exact isTrue_or_nil e
 | true=>exact e
theorem xB(ha:PT X a tA)(hb:PW X (.BoolOp .And (b::rest) pos) tB'):PW X (.BoolOp .And (a::b::rest) pos) (zS tA tB'):=by
 intro wh pins s σ H Q I h
 refine isTrue_and (thn (ha pins s σ H _ I h) fun c s1 ⟨H1,I1,q1⟩=>?_)
 cases c with
 | true=>exact hb wh pins s1 σ H1 Q I1 q1
 | false=>exact⟨H1,I1,q1⟩
theorem pi(ha:PT X a tA)(hb:PW X (.BoolOp .Or (b::rest) pos) tB'):PW X (.BoolOp .Or (a::b::rest) pos) (tOr tA tB'):=by
 intro wh pins s σ H Q I h
 refine isTrue_or (thn (ha pins s σ H _ I h) fun c s1 ⟨H1,I1,q1⟩=>?_)
 cases c with
 | true=>exact⟨H1,I1,q1⟩
 | false=>exact hb wh pins s1 σ H1 Q I1 q1
theorem nO(ha:PT X a tA):PT X (.UnaryOp .Not a pos) (zN tA):=by
 intro pins s σ H Q I h
 exact isTrue_not (ha pins s σ H (fun c H1=>Q (!c) H1) I h)
inductive tAndVI(tb:TE)(σ:St)(Q:VK)(x:V)(H1:Hp):Prop | mk (c) (_:x=.bl c) (_:if c=true then tb σ H1 Q else Q (.bl false) H1)
def y2(ta tb:TE):TE:=fun σ H Q=>ta σ H (tAndVI tb σ Q)
inductive tOrVI(tb:TE)(σ:St)(Q:VK)(x:V)(H1:Hp):Prop | mk (c) (_:x=.bl c) (_:if c=true then Q (.bl true) H1 else tb σ H1 Q)
def zM(ta tb:TE):TE:=fun σ H Q=>ta σ H (tOrVI tb σ Q)
inductive tNotVI(Q:VK)(x:V)(H1:Hp):Prop | mk (c) (_:x=.bl c) (_:Q (.bl (!c)) H1)
def yT(ta:TE):TE:=fun σ H Q=>ta σ H (tNotVI Q)
theorem xO{op}{t:TE}(h:PE X a t):PE X (.BoolOp op [a] pos) t:=fun pins s σ H Q I hw=>BoolOp_one (h pins s σ H Q I hw)
theorem xR(ha:PE X a ta)(hb:PE X (.BoolOp .And (b::rest) pos) tb):PE X (.BoolOp .And (a::b::rest) pos) (y2 ta tb):=by
 intro pins s σ H Q I h
 refine BoolOp_and (thn (ha pins s σ H _ I h) fun v s1 ⟨x,H1,I1,r1,q1⟩=>?_)
 obtain⟨c,rfl,q1⟩:=q1
 cases r1
 refine wpAny_truthy_bool ?_
 cases c with
 | true=>exact hb pins s1 σ H1 Q I1 q1
 | false=>exact⟨.bl false,H1,I1,rfl,q1⟩
theorem y7(ha:PE X a ta)(hb:PE X (.BoolOp .Or (b::rest) pos) tb):PE X (.BoolOp .Or (a::b::rest) pos) (zM ta tb):=by
 intro pins s σ H Q I h
 refine BoolOp_or (thn (ha pins s σ H _ I h) fun v s1 ⟨x,H1,I1,r1,q1⟩=>?_)
 obtain⟨c,rfl,q1⟩:=q1
 cases r1
 refine wpAny_truthy_bool ?_
 cases c with
 | false=>exact hb pins s1 σ H1 Q I1 q1
 | true=>exact⟨.bl true,H1,I1,rfl,q1⟩
theorem sH(ha:PE X a ta):PE X (.UnaryOp .Not a pos) (yT ta):=by
 intro pins s σ H Q I h
 refine UnaryOp_ (thn (ha pins s σ H _ I h) fun v s1 ⟨x,H1,I1,r1,q1⟩=>?_)
 obtain⟨c,rfl,q1⟩:=q1
 cases r1
 exact not_of (wpAny_truthy_bool ⟨.bl (!c),H1,I1,rfl,q1⟩)
def tIf(t:TT)(ta tb:TE):TE:=fun σ H Q=>t σ H fun c H1=>if c=true then ta σ H1 Q else tb σ H1 Q
theorem i5{c:Expr}(hc:PT X c tA)(ha:PE X a ta)(hb:PE X b tb):PE X (.IfExp c a b pos) (tIf tA ta tb):=by
 intro pins s σ H Q I h
 refine wpAny_IfExp (thn (hc pins s σ H _ I h) fun d s1 ⟨H1,I1,q1⟩=>?_)
 cases d with
 | true=>exact ha pins s1 σ H1 Q I1 q1
 | false=>exact hb pins s1 σ H1 Q I1 q1
end
def SqL(K:WB)(H:Hp)(a:Addr)(xs:List V):Prop:=
 Rd H a (.lst xs)∨
  ∃ (o:Obj) (its:Array Value) (n:Nat),K.lookup a=some o∧o.cls=.type "list"∧o.dict=none∧o.data=.seq its n∧its.size≤sizeLine∧ax xs its.toList
def SqT(K:WB)(H:Hp)(a:Addr)(xs:List V):Prop:=
 Rd H a (.tup xs)∨
  ∃ (o:Obj) (its:Array Value) (n:Nat),K.lookup a=some o∧o.cls=.type "tuple"∧o.data=.seq its n∧its.size≤sizeLine∧ax xs its.toList
def AD:Value→Option V
 | .none=>some .non
 | .bool b=>some (.bl b)
 | .int i _=>some (.int i)
 | .str x _=>some (.str x)
 | .bytes b _=>some (.byt b)
 | .float b _=>some (.flt b)
 | .ref a=>some (.ref a)
 | .type n=>some (.ty n)
 | _=>none
theorem ar.abs{x:V}{u:Value}(r:ar x u):AD u=some x:=by
 cases x with
 | non=>cases r; rfl
 | bl _=>cases r; rfl
 | int _=>obtain⟨t,rfl⟩:=r; rfl
 | str _=>obtain⟨t,rfl⟩:=r; rfl
 | byt _=>obtain⟨t,rfl⟩:=r; rfl
 | flt _=>obtain⟨t,rfl⟩:=r; rfl
 | ref _=>cases r; rfl
 | ty _=>cases r; rfl
theorem ar.inj{x y:V}{u:Value}(r:ar x u)(q:ar y u):x=y:=Option.some.inj (r.abs.symm.trans q.abs)
theorem ax.inj:∀ {xs ys:List V} {us:List Value},ax xs us→ax ys us→xs=ys
 | _,_,_,.nil,.nil=>rfl
 | _,_,_,.cons r t,.cons r' t'=>by rw [r.inj r',ax.inj t t']
section
variable{X:Cx}{pins:List (Addr×Obj)}{σ:St}{H:Hp}{s:Shared}{a:Addr}{xs ys:List V}
theorem SqL.of{K:WB}(h:H a=some (.lst xs)):SqL K H a xs:=.inl (.inl h)
theorem SqT.of{K:WB}(h:H a=some (.tup xs)):SqT K H a xs:=.inl (.inl h)
theorem Inv.list(I:Inv X pins σ H s)(h:SqL X.K H a xs):∃ its:List Value,ax xs its∧PlainL s.heap a its.toArray∧xs.length≤sizeLine:=by
 rcases h with h | ⟨o,its,n,hk,hc,hd,hs,hz,r⟩
 ·obtain⟨z,its,n,r,e⟩:=h.ok I.hok
  exact⟨its,r,⟨_,n,e,rfl,rfl,rfl⟩,z⟩
 ·refine⟨its.toList,r,⟨o,n,I.kIn a o hk,hc,hd,by simpa using hs⟩,?_⟩
  have e:=r.length
  simp only [XV] at e
  omega
theorem Inv.tuple(I:Inv X pins σ H s)(h:SqT X.K H a xs):∃ its:List Value,ax xs its∧IsTup s.heap a its.toArray∧xs.length≤sizeLine:=by
 rcases h with h | ⟨o,its,n,hk,hc,hs,hz,r⟩
 ·obtain⟨z,its,r,p⟩:=h.ok I.hok
  exact⟨its,r,p,z⟩
 ·refine⟨its.toList,r,⟨o,I.kIn a o hk,hc,n,by simpa using hs⟩,?_⟩
  have e:=r.length
  simp only [XV] at e
  omega
theorem Inv.list_inj(I:Inv X pins σ H s)(h:SqL X.K H a xs)(h':SqL X.K H a ys):xs=ys:=by
 obtain⟨its,r,⟨o,n,e,_,_,d⟩,_⟩:=I.list h
 obtain⟨its',r',⟨o',n',e',_,_,d'⟩,_⟩:=I.list h'
 rw [e] at e'; cases e'
 rw [d] at d'
 injection d' with d1 _
 have : its=its':=by simpa using congrArg Array.toList d1
 subst this
 exact r.inj r'
theorem Inv.tuple_inj(I:Inv X pins σ H s)(h:SqT X.K H a xs)(h':SqT X.K H a ys):xs=ys:=by
 obtain⟨its,r,⟨o,e,_,n,d⟩,_⟩:=I.tuple h
 obtain⟨its',r',⟨o',e',_,n',d'⟩,_⟩:=I.tuple h'
 rw [e] at e'; cases e'
 rw [d] at d'
 injection d' with d1 _
 have : its=its':=by simpa using congrArg Array.toList d1
 subst this
 exact r.inj r'
end
abbrev Cx.wish(X:Cx)(E:Value→Shared→Prop):Cx:={X with xe:=E}
abbrev Cx.nox(X:Cx):Cx:=X.wish fun _ _=>False
theorem Cx.Ok.wish{X:Cx}(ok:X.Ok)(E:Value→Shared→Prop):(X.wish E).Ok:=
 ⟨ok.mod,ok.kind,ok.glob,ok.blt,ok.above,ok.inj,ok.has,ok.cab,ok.hd,ok.frames,ok.stk,ok.exf,ok.bs,ok.bsz,ok.noex,ok.exfs,ok.funs,ok.frf⟩
theorem Cx.Ok.unwish{X:Cx}{E:Value→Shared→Prop}(ok:(X.wish E).Ok):X.Ok:=
 ⟨ok.mod,ok.kind,ok.glob,ok.blt,ok.above,ok.inj,ok.has,ok.cab,ok.hd,ok.frames,ok.stk,ok.exf,ok.bs,ok.bsz,ok.noex,ok.exfs,ok.funs,ok.frf⟩
section
variable{X:Cx}{pins:List (Addr×Obj)}{σ:St}{H:Hp}{s:Shared}{E:Value→Shared→Prop}
theorem Inv.wish(I:Inv X pins σ H s)(E:Value→Shared→Prop):Inv (X.wish E) pins σ H s:=⟨I.ok.wish E,I.os,I.bare,I.base,I.loc,I.cell,I.free,I.freeC,I.pin,I.hok,I.len⟩
theorem Inv.unwish(I:Inv (X.wish E) pins σ H s):Inv X pins σ H s:=⟨I.ok.unwish,I.os,I.bare,I.base,I.loc,I.cell,I.free,I.freeC,I.pin,I.hok,I.len⟩
theorem SP.unwish{D:gO}{f:Flow}{s':Shared}(h:SP (X.wish E) pins D f s'):SP X pins D f s':=by
 cases f with
 | next=>obtain⟨σ',H',I,q⟩:=h; exact⟨σ',H',I.unwish,q⟩
 | brk=>obtain⟨σ',H',I,q⟩:=h; exact⟨σ',H',I.unwish,q⟩
 | cont=>obtain⟨σ',H',I,q⟩:=h; exact⟨σ',H',I.unwish,q⟩
 | ret u=>obtain⟨v,σ',H',I,r,q⟩:=h; exact⟨v,σ',H',I.unwish,r,q⟩
theorem PE.nox{e:Expr}{t:TE}(h:PE X.nox e t):PE X e t:=fun pins s σ H Q I hw=>
 YH (h pins s σ H Q (I.wish _) hw) (fun _ _ ⟨v,H',I',r,q⟩=>⟨v,H',I'.unwish,r,q⟩) fun _ _ z=>False.elim z
theorem PT.nox{e:Expr}{t:TT}(h:PT X.nox e t):PT X e t:=fun pins s σ H Q I hw=>
 YH (h pins s σ H Q (I.wish _) hw) (fun _ _ ⟨H',I',q⟩=>⟨H',I'.unwish,q⟩) fun _ _ z=>False.elim z
theorem PSs.nox{st:List Stmt}{t:TS}(h:PSs X.nox st t):PSs X st t:=fun pins s σ H D I hw=>
 YH (h pins s σ H D (I.wish _) hw) (fun _ _ q=>q.unwish) fun _ _ z=>False.elim z
end
section
variable{X:Cx}{st:Stmt}{rest:List Stmt}{t u:TS}{e:Expr}{te:TE}{pos:Pos}
def yU:TS:=fun D σ H=>D.nx σ H
def yS(t u:TS):TS:=fun D σ H=>t {D with nx:=u D} σ H
theorem dC:PSs X [] yU:=fun _ _ σ H _ I h=>wpAny_execs_nil ⟨σ,H,I,h⟩
theorem au(h1:PS X st t)(h2:PSs X rest u):PSs X (st::rest) (yS t u):=by
 intro pins s σ H D I h
 refine wpAny_execs_cons (thn (h1 pins s σ H {D with nx:=u D} I h) fun f s1 q=>?_)
 cases f with
 | next=>
  obtain⟨σ',H',I',q⟩:=q
  exact h2 pins s1 σ' H' D I' q
 | ret v=>exact q
 | brk=>exact q
 | cont=>exact q
theorem aL(h1:PS X st t):PSs X [st] t:=by
 intro pins s σ H D I h
 refine wpAny_execs_cons (thn (h1 pins s σ H D I h) fun f s1 q=>?_)
 cases f with
 | next=>exact wpAny_execs_nil q
 | ret v=>exact q
 | brk=>exact q
 | cont=>exact q
theorem Inv.quiet{pins:List (Addr×Obj)}{σ:St}{H:Hp}{s:Shared}(I:Inv X pins σ H s):interactive X.env=false:=by simp [interactive,I.ok.kind]
def yX(te:TE):TS:=fun D σ H=>te σ H fun _ H1=>D.nx σ H1
theorem vo(he:PE X e te)(hs:swapsWith e none pos.line X.env=pure false:=by rfl):PS X (.Expr e pos) (yX te):=by
 intro pins s σ H D I h
 exact wpAny_Expr_any (thn (he pins s σ H _ I h) fun v s1 ⟨x,H1,I1,r1,q1⟩=>⟨σ,H1,I1,q1⟩) I.quiet hs
def zK(te:TE):TS:=fun D σ H=>te σ H D.rt
theorem cB(he:PE X e te):PS X (.Return (some e) pos) (zK te):=by
 intro pins s σ H D I h
 exact wpAny_Return_some (thn (he pins s σ H _ I h) fun v s1 ⟨x,H1,I1,r1,q1⟩=>⟨x,σ,H1,I1,r1,q1⟩)
def zP(c:TT)(t u:TS):TS:=fun D σ H=>c σ H fun b H1=>if b=true then t D σ H1 else u D σ H1
theorem iq{c:Expr}{a b:List Stmt}{tc:TT}(hc:PT X c tc)(ha:PSs X a t)(hb:PSs X b u):PS X (.If c a b pos) (zP tc t u):=by
 intro pins s σ H D I h
 refine wpAny_If (thn (hc pins s σ H _ I h) fun d s1 ⟨H1,I1,q1⟩=>?_)
 cases d with
 | true=>exact ha pins s1 σ H1 D I1 q1
 | false=>exact hb pins s1 σ H1 D I1 q1
def xo:TS:=fun _ _ _=>False
theorem sx:PS X st xo:=fun _ _ _ _ _ _ h=>h.elim
end
abbrev TG:=V→St→Hp→(St→Hp→Prop)→Prop
abbrev TGs:=List V→St→Hp→(St→Hp→Prop)→Prop
def PG(X:Cx)(target:Expr)(t:TG):Prop:=
 ∀ (pins:List (Addr×Obj)) (s:Shared) (σ:St) (H:Hp) (v:V) (u:Value) (Q:St→Hp→Prop),Inv X pins σ H s→ar v u→t v σ H Q→
  wpAny (model X.prog X.w) X.A (assign target X.env u) (fun _ s'=>∃ σ' H',Inv X pins σ' H' s'∧Q σ' H') X.xe s
def PGs(X:Cx)(ts:List Expr)(t:TGs):Prop:=
 ∀ (pins:List (Addr×Obj)) (s:Shared) (σ:St) (H:Hp) (vs:List V) (us:List Value) (Q:St→Hp→Prop),Inv X pins σ H s→ax vs us→t vs σ H Q→
  wpAny (model X.prog X.w) X.A (assignInOrder ((assignEach ts X.env).map (·.2)) us) (fun _ s'=>∃ σ' H',Inv X pins σ' H' s'∧Q σ' H') X.xe s
abbrev uX:=V→V→V→Hp→(Hp→Prop)→Prop
def yL(X:Cx)(t:uX):Prop:=
 ∀ (pins:List (Addr×Obj)) (s:Shared) (σ:St) (H:Hp) (o i v:V) (ov iv u:Value) (Q:Hp→Prop),Inv X pins σ H s→ar o ov→ar i iv→ar v u→t o i v H Q→
  wpAny (model X.prog X.w) X.A (setItem ov iv u) (fun _ s'=>∃ H',Inv X pins σ H' s'∧Q H') X.xe s
abbrev TIp:=V→V→Hp→VK→Prop
def PIp(X:Cx)(op:Operator)(t:TIp):Prop:=
 ∀ (pins:List (Addr×Obj)) (s:Shared) (σ:St) (H:Hp) (x y:V) (v u:Value) (Q:VK),Inv X pins σ H s→ar x v→ar y u→t x y H Q→
  wpAny (model X.prog X.w) X.A (inplaceOp op v u) (EP X pins σ Q) X.xe s
section
variable{X:Cx}{pos:Pos}
def du(i:Nat):TG:=fun v σ H Q=>Q (σ.set i (some v)) H
theorem d9{i:Nat}{x:Str}(hN:X.N.Nodup)(hi:X.N[i]? = some x)(hx:Loc X.env.scope x)(hf:X.fn x=true∨X.env.scope.names.lookup x=some .local:=by first | exact .inl rfl | exact .inr rfl | assumption):PG X (.Name x pos) (du i):=by
 intro pins s σ H v u Q I r h
 exact wpAny_assign_Name (dS I hN hi hx r (fun s' I'=>⟨_,H,I',h⟩) hf)
def zv:TGs:=fun vs σ H Q=>vs=[]∧Q σ H
inductive gCons(t:TG)(u:TGs)(vs:List V)(σ:St)(H:Hp)(Q:St→Hp→Prop):Prop | mk (v r) (_:vs=v::r) (_:t v σ H fun σ' H'=>u r σ' H' Q)
theorem pk:PGs X [] zv:=by
 intro pins s σ H vs us Q I r h
 obtain⟨e,h⟩:=h
 subst e
 cases r
 exact assignInOrder_nil ⟨σ,H,I,h⟩
theorem lP{e:Expr}{es:List Expr}{t:TG}{u:TGs}(h1:PG X e t)(h2:PGs X es u)
  (hs:(assignEach (e::es) X.env).map (·.2)=assign e X.env::(assignEach es X.env).map (·.2):=by rfl):PGs X (e::es) (gCons t u):=by
 intro pins s σ H vs us Q I r h
 obtain⟨v,vr,e1,h⟩:=h
 subst e1
 cases r with
 | cons r rr=>
  rw [hs]
  refine assignInOrder_cons (thn (h1 pins s σ H _ _ _ I r h) fun _ s1 ⟨σ1,H1,I1,q1⟩=>?_)
  exact h2 pins s1 σ1 H1 _ _ Q I1 rr q1
inductive gTup(K:WB)(n:Nat)(t:TGs)(v:V)(σ:St)(H:Hp)(Q:St→Hp→Prop):Prop | mk (a xs) (_:v=.ref a) (_:SqT K H a xs) (_:xs.length=n) (_:t xs σ H Q)
theorem nU{es:List Expr}{k:Nat}{t:TGs}{n:Nat}(hc:X.calm=true)(h:PGs X es t)
  (hn:(assignEach es X.env).length=n:=by rfl) (hst:(assignEach es X.env).findIdx? (·.1)=none:=by rfl):PG X (.Tuple es k pos) (gTup X.K n t):=by
 intro pins s σ H v u Q I r hw
 obtain⟨a,xs,e1,hq,hl,hw⟩:=hw
 subst e1
 cases r
 obtain⟨its,rv,ht,hz⟩:=I.tuple hq
 refine assign_Tuple_tuple (I.ok.hd hc) ht (by simp [hn,← hl,rv.length]) hst fun h' hx=>?_
 have I1:Inv X pins σ H {s with heap:=h'}:=I.kept (t':=s.toks) fun b o e=>hx b o (YT (YF e)) e
 exact h pins _ σ H xs _ Q I1 (by simpa using rv) hw
def z9(to ti:TE)(t:uX):TG:=fun v σ H Q=>to σ H fun o H1=>ti σ H1 fun i H2=>t o i v H2 fun H3=>Q σ H3
theorem xK{o i:Expr}{to ti:TE}{t:uX}(ho:PE X o to)(hi:PE X i ti)(hs:yL X t)
  (ha:∀ v,assign (.Subscript o i pos) X.env v=(do
   let ov ← holding [v] (eval o X.env)
   let iv ← holding [v,ov] (eval i X.env)
   standAt pos
   holding [v,ov,iv] (setItem ov iv v)
   release [v,ov,iv] []):=by intro _; rfl):PG X (.Subscript o i pos) (z9 to ti t):=by
 intro pins s σ H v u Q I r h
 rw [ha]
 refine Yz (wpAny_holding (thn (ho pins s σ H _ I h) fun ov s1 ⟨x,H1,I1,r1,q1⟩=>?_))
 refine Yz (wpAny_holding (thn (hi pins s1 σ H1 _ I1 q1) fun iv s2 ⟨y,H2,I2,r2,q2⟩=>?_))
 refine Yz (wpAny_standAt (Yz (wpAny_holding (thn (hs pins s2 σ H2 x y v ov iv u _ I2 r1 r2 r q2) fun _ s3 ⟨H3,I3,q3⟩=>?_))))
 exact wpAny_release ⟨σ,H3,I3,q3⟩
def rQ(te:TE)(g:TG):TS:=fun D σ H=>te σ H fun x H1=>g x σ H1 D.nx
theorem xG{tg e:Expr}{te:TE}{g:TG}(he:PE X e te)(hg:PG X tg g)(hs:swapsWithSole [tg] e pos.line X.env=pure false:=by rfl)(hw:swappedStores [tg] e X.env=pure none:=by rfl)
  (h1:(assignEach [tg] X.env).map (·.2)=[assign tg X.env]:=by rfl):PS X (.Assign [tg] e pos) (rQ te g):=by
 intro pins s σ H D I h
 refine wpAny_Assign_stores (thn (he pins s σ H _ I h) fun v s1 ⟨x,H1,I1,r1,q1⟩=>?_) hs hw
 rw [h1]
 exact thn (hg pins s1 σ H1 x v _ I1 r1 q1) fun _ s2 q=>q
theorem aZ{i:Nat}{x:Str}{e:Expr}{te:TE}{pos':Pos}(hN:X.N.Nodup)(hi:X.N[i]? = some x)(hx:Loc X.env.scope x)(he:PE X e te)(hs:swapsWith e (some (.Name x pos')) pos.line X.env=pure false:=by rfl)(hf:X.fn x=true∨X.env.scope.names.lookup x=some .local:=by first | exact .inl rfl | exact .inr rfl | assumption):
  PS X (.Assign [.Name x pos'] e pos) (rQ te (du i)):=by
 intro pins s σ H D I h
 refine wpAny_Assign_Name (thn (he pins s σ H _ I h) fun v s1 ⟨y,H1,I1,r1,q1⟩=>?_) hs
 exact dS I1 hN hi hx r1 (fun s2 I2=>⟨_,H1,I2,q1⟩) hf
inductive tParI(i j:Nat)(D:gO)(σ:St)(vs:List V)(H1:Hp):Prop | mk (v w) (_:vs=[v,w]) (_:D.nx ((σ.set i (some v)).set j (some w)) H1)
def zL(i j:Nat)(ta:TA):TS:=fun D σ H=>ta σ H (tParI i j D σ)
theorem xD{i j:Nat}{x y:Str}{a b:Expr}{ta:TA}{px py pt:Pos}{kt k2 pt2}(hc:X.calm=true)(hN:X.N.Nodup)(hi:X.N[i]? = some x)(hj:X.N[j]? = some y)(hij:i≠j)
  (hx:X.env.scope.names.lookup x=some .local) (hy:X.env.scope.names.lookup y=some .local) (ha:PA X [a,b] ta)
  (hw:swappedStores [.Tuple [.Name x px,.Name y py] kt pt] (.Tuple [a,b] k2 pt2) X.env=pure (some [x,y]))
  (hs:swapsWithSole [.Tuple [.Name x px,.Name y py] kt pt] (.Tuple [a,b] k2 pt2) pos.line X.env=pure false:=by rfl) :
  PS X (.Assign [.Tuple [.Name x px,.Name y py] kt pt] (.Tuple [a,b] k2 pt2) pos) (zL i j ta):=by
 intro pins s σ H D I h
 rw [exec_Assign_arm]
 refine Yz (wpAny_standAt ?_)
 rw [hs]
 refine Yz (YB ?_)
 rw [if_neg (by decide)]
 refine Yz (Tuple_ (thn (ha _ pins s σ H _ I h) fun us s1 ⟨vs,H1,I1,r1,q1⟩=>?_))
 obtain⟨v,w,e1,q1⟩:=q1
 subst e1
 obtain⟨u1,u2,rfl,rv,rw'⟩:∃ u1 u2,us=[u1,u2]∧ar v u1∧ar w u2:=by
  cases r1 with
  | cons p q=>
   cases q with
   | cons p' q'=>
    cases q'
    exact⟨_,_,rfl,p,p'⟩
 refine wpAny_newObj_type ?_ (by show 2≤sizeLine; decide)
 have I2:Inv X pins σ H1 {s1 with heap:=s1.heap.push {cls:=.type "tuple",data:=.seq [u1,u2].toArray}}:=I1.kept (t':=s1.toks) fun b o e=>YA _ e
 rw [hw]
 refine Yz (YB ?_)
 show wpAny (model X.prog X.w) X.A (do rule "assign.swapped-stores"; let items ← unpackItems (.ref s1.heap.objs.size) 2 none; assignInOrder [fun v=>bindName X.env y v,fun v=>bindName X.env x v] items.reverse; pure Flow.next) _ _ _
 refine Yz (wpAny_rule (Yz (unpackItems_tuple (items:=#[u1,u2]) (I.ok.hd hc) (IsTup.new s1.heap _) fun h' hx'=>?_)))
 have I3:=I2.kept (h':=h') (t':=s1.toks) fun b o e=>hx' b o (YT (YF e)) e
 show wpAny _ _ (assignInOrder [fun v=>bindName X.env y v,fun v=>bindName X.env x v] [u2,u1]>>=fun _=>pure Flow.next) _ _ _
 refine Yz (assignInOrder_cons (wpAny_bindName (dS I3 hN hj (.inl hy) rw' (fun s2 I4=>?_) (.inr hy))))
 refine assignInOrder_cons (wpAny_bindName (dS I4 hN hi (.inl hx) rv (fun s3 I5=>assignInOrder_nil (YB ?_)) (.inr hx)))
 rw [List.set_comm _ _ (Ne.symm hij)] at I5
 exact⟨_,H1,I5,q1⟩
def y1(to ti te:TE)(tget:V→V→Hp→VK→Prop)(tip:TIp)(tset:uX):TS:=fun D σ H=>to σ H fun o H1=>ti σ H1 fun i H2=>tget o i H2 fun x H3=>te σ H3 fun y H4=>tip x y H4 fun z H5=>tset o i z H5 fun H6=>D.nx σ H6
def zB(X:Cx)(t:V→V→Hp→VK→Prop):Prop:=
 ∀ (pins:List (Addr×Obj)) (s:Shared) (σ:St) (H:Hp) (o i:V) (ov iv:Value) (Q:VK),Inv X pins σ H s→ar o ov→ar i iv→t o i H Q→
  wpAny (model X.prog X.w) X.A (getItem ov iv) (EP X pins σ Q) X.xe s
theorem vt{o i e:Expr}{to ti te:TE}{tget:V→V→Hp→VK→Prop}{tip:TIp}{tset:uX}{op:Operator}{tpos:Pos}(ho:PE X o to)(hi:PE X i ti)(hg:zB X tget)(he:PE X e te)(hp:PIp X op tip)(hs:yL X tset)
  (ha:∀ ov iv new,augStore i ov iv new=(do holding [new,ov,iv] (setItem ov iv new); release [new,ov,iv] []; pure .next):=by intros; rfl):PS X (.AugAssign (.Subscript o i tpos) op e pos) (y1 to ti te tget tip tset):=by
 intro pins s σ H D I h
 refine wpAny_AugAssign_SubscriptAny (thn (ho pins s σ H _ I h) fun ov s1 ⟨x1,H1,I1,r1,q1⟩=>?_) ha
 refine thn (hi pins s1 σ H1 _ I1 q1) fun iv s2 ⟨x2,H2,I2,r2,q2⟩=>?_
 refine thn (hg pins s2 σ H2 x1 x2 ov iv _ I2 r1 r2 q2) fun old s3 ⟨x3,H3,I3,r3,q3⟩=>?_
 refine thn (he pins s3 σ H3 _ I3 q3) fun v s4 ⟨x4,H4,I4,r4,q4⟩=>?_
 refine thn (hp pins s4 σ H4 x3 x4 old v _ I4 r3 r4 q4) fun new s5 ⟨x5,H5,I5,r5,q5⟩=>?_
 exact thn (hs pins s5 σ H5 x1 x2 x5 ov iv new _ I5 r1 r2 r5 q5) fun _ s6 ⟨H6,I6,q6⟩=>⟨σ,H6,I6,q6⟩
inductive ipI(f:Int→Int→Int)(x y:V)(H:Hp)(Q:VK):Prop | mk (i j) (_:x=.int i) (_:y=.int j) (_:Q (.int (f i j)) H)
theorem yy:PIp X .Sub (ipI fun i j=>i-j):=by
 intro pins s σ H x y v u Q I r1 r2 h
 obtain⟨i,j,e1,e2,q⟩:=h
 subst e1; subst e2
 obtain⟨t,rfl⟩:=r1
 obtain⟨t',rfl⟩:=r2
 exact isub_int ⟨.int _,H,I.tok _,⟨_,rfl⟩,q⟩
end
section
variable{X:Cx}{pos:Pos}
end
structure It where
 go:Nat→Hp→Prop
 yld:Nat→Hp→V→Hp→Prop
 stop:Nat→Hp→Prop
def d3(X:Cx)(pins:List (Addr×Obj))(H:Hp)(b:Addr):Prop:=
 H b=none∧b≠X.env.locals∧b∉X.fs∧(b∈X.ex∨X.s₀.heap.objs.size≤b)∧(∀ x c,X.env.cells.lookup x=some c→c≠b)∧∀ p∈X.pn++pins,p.1≠b
theorem Inv.fpOk{X:Cx}{pins:List (Addr×Obj)}{σ:St}{H H':Hp}{s:Shared}{b:Addr}(I:Inv X pins σ H s)(hb:s.heap.objs.size≤b)(hn:H' b=none):d3 X pins H' b:=by
 refine⟨hn,X3 (Y2 I.lt hb),I.nofs hb,.inr (YE I.sz hb),fun x c e z=>?_,fun p hp z=>?_⟩
 ·obtain⟨v,q⟩:=I.cell x c e
  exact absurd (Y2 q.lt (by rw [z]; exact hb)) (Nat.lt_irrefl _)
 ·exact absurd (Y2 (YF (I.pin p hp).1) (by rw [z]; exact hb)) (Nat.lt_irrefl _)
structure jt(P:Program)(w:World)(K:WB)(tg:Expr)(J:It)(fp:List Addr)(it:Addr)(tn:Nat→Heap→Prop):Prop where
 mem:it∈fp
 obj:∀ i h,tn i h→∀ b∈fp,∃ o,h.get? b=some o∧∀ v,o.data≠.cell v
 keep:∀ i h h',tn i h→(∀ b∈fp,∀ o,h.get? b=some o→h'.get? b=some o)→tn i h'
 item:∀ (X:Cx),X.prog=P→X.w=w→X.K=K→X.calm=true→∀ (i:Nat) (pins:List (Addr×Obj)) (s:Shared) (σ:St) (H:Hp) (E:Value→Shared→Prop),Inv X pins σ H s→(∀ b∈fp,d3 X pins H b)→tn i s.heap→J.go i H→
  wpAny (model P w) X.A (pyNext (.ref it)) (fun r s1=>∃ u,r=some u∧
   wpAny (model P w) X.A (letOwnedTupleGo tg (.ref it) u) (fun _ s2=>∃ x H',Inv X pins σ H' s2∧ar x u∧J.yld i H x H'∧tn (i+1) s2.heap∧∀ b∈fp,H' b=none) E s1) E s
 done:∀ (X:Cx),X.prog=P→X.w=w→X.K=K→X.calm=true→∀ (i:Nat) (pins:List (Addr×Obj)) (s:Shared) (σ:St) (H:Hp) (E:Value→Shared→Prop),Inv X pins σ H s→(∀ b∈fp,d3 X pins H b)→tn i s.heap→J.stop i H→
  wpAny (model P w) X.A (pyNext (.ref it)) (fun r s1=>r=none∧Inv X pins σ H s1) E s
 self:∀ (A:Around) (i:Nat) (s:Shared) (Q:Value→Shared→Prop) (E:Value→Shared→Prop),tn i s.heap→Q (.ref it) s→wpAny (model P w) A (pyIter (.ref it)) Q E s
abbrev TI:=St→Hp→(It→Hp→Prop)→Prop
def PIE(X:Cx)(pins:List (Addr×Obj))(σ:St)(tg:Expr)(R:It→Hp→Prop)(itv:Value)(s2:Shared):Prop:=
 ∃ (it:Addr) (fp:List Addr) (tn:Nat→Heap→Prop) (J:It) (H':Hp),itv=.ref it∧Inv X pins σ H' s2∧jt X.prog X.w X.K tg J fp it tn∧tn 0 s2.heap∧(∀ b∈fp,d3 X pins H' b)∧R J H'
def PI(X:Cx)(tg iter:Expr)(wi:TI):Prop:=
 ∀ (pins:List (Addr×Obj)) (s:Shared) (σ:St) (H:Hp) (R:It→Hp→Prop),Inv X pins σ H s→wi σ H R→
  wpAny (model X.prog X.w) X.A (eval iter X.env) (fun v s1=>wpAny (model X.prog X.w) X.A (pyIter v) (PIE X pins σ tg R) X.xe s1) X.xe s
theorem pI{M:Model}{A:Around}{E:Value→Shared→Prop}{s:Shared}{tg:Expr}{it:Addr}{u:Value}{o:Obj}{n:String}{vs:Array Value}{Q:Unit→Shared→Prop}(ho:s.heap.get? it=some o)(hc:o.cls=.type n)(hd:o.data=.fields vs)
    (hn:["enumerate","zip","dict_itemiterator","dict_reverseitemiterator","odict_iterator","itertools.zip_longest","itertools.pairwise"].contains n=false) (hQ:Q () s):wpAny M A (letOwnedTupleGo tg (.ref it) u) Q E s:=by
  unfold letOwnedTupleGo
  cases tg <;> first
    | exact YB hQ
    | (cases u <;> first
        | exact YB hQ
        | (refine Yz (wpAny_load ho ?_)
           rw [hc,hd]
           show wpAny M A (if (["enumerate","zip","dict_itemiterator","dict_reverseitemiterator","odict_iterator","itertools.zip_longest","itertools.pairwise"].contains n&&vs[0]? == some (rawInt _))=true then _ else _) Q E s
           rw [if_neg (by intro h; rw [hn,XZ] at h; cases h)]
           exact YB hQ))
def Itl(K:WB)(a:Addr):It:=
 ⟨fun i H=>∃ xs x,SqL K H a xs∧xs[i]? = some x,fun i H x H'=>H'=H∧∀ xs,SqL K H a xs→xs[i]? = some x,fun i H=>∃ xs,SqL K H a xs∧xs.length≤i⟩
def Itt(K:WB)(a:Addr):It:=
 ⟨fun i H=>∃ xs x,SqT K H a xs∧xs[i]? = some x,fun i H x H'=>H'=H∧∀ xs,SqT K H a xs→xs[i]? = some x,fun i H=>∃ xs,SqT K H a xs∧xs.length≤i⟩
def Itr(lo:Int)(n:Nat):It:=⟨fun i _=>i<n,fun i H x H'=>H'=H∧x=.int (lo+i),fun i _=>n≤i⟩
theorem qb{P:Program}{w:World}{K:WB}{tg:Expr}(a it:Addr):jt P w K tg (Itl K a) [it] it (fun i h=>h.IsListIter it a i) where
 mem:=by simp
 obj:=fun i h st b hb=>by
  have e:b=it:=by simpa using hb
  subst e
  obtain⟨o,e,c,d⟩:=st
  exact⟨o,e,fun v z=>by rw [d] at z; cases z⟩
 keep:=fun i h h' st k=>st.at fun o e=>k it (by simp) o e
 item:=by
  intro X hP hw hK hc i pins s σ H E I hf st hg
  subst hP hw hK
  obtain⟨xs,x,hq,hx⟩:=hg
  obtain⟨its,rv,p,hz⟩:=I.list hq
  obtain⟨u,hu,ru⟩:=rv.get hx
  obtain⟨f0,f1,f2,f3,f4,f5⟩:=hf it (by simp)
  refine wpAny_pyNext_list_item st p.isList (x:=u) (by simpa using hu) fun h' st' sb=>?_
  have I1:Inv X pins σ H {s with heap:=h'}:=I.turned (t':=s.toks) (fun b o hb e=>(sb.2 b hb).trans e) f0 f1 f3 f4 f5
  obtain⟨o,e,c,d⟩:=id st'
  exact⟨u,rfl,pI (s:={s with heap:=h'}) e c d (by decide) ⟨x,H,I1,ru,⟨rfl,fun ys hy=>by rw [I.list_inj hy hq]; exact hx⟩,st',fun b hb=>(hf b hb).1⟩⟩
 done:=by
  intro X hP hw hK hc i pins s σ H E I hf st hg
  subst hP hw hK
  obtain⟨xs,hq,hx⟩:=hg
  obtain⟨its,rv,p,hz⟩:=I.list hq
  obtain⟨f0,f1,f2,f3,f4,f5⟩:=hf it (by simp)
  have hl:=rv.length
  exact wpAny_pyNext_list_end (I.ok.hd hc) st p.isList (by simp; omega) fun h' eb=>⟨rfl,I.turned (t':=s.toks) (fun b o hb e=>eb b o hb e) f0 f1 f3 f4 f5⟩
 self:=fun _ _ _ _ _ st h=>wpAny_pyIter_listiter st h
theorem ni{P:Program}{w:World}{K:WB}{tg:Expr}(a it:Addr):jt P w K tg (Itt K a) [it] it (fun i h=>h.IsTupleIter it a i) where
 mem:=by simp
 obj:=fun i h st b hb=>by
  have e:b=it:=by simpa using hb
  subst e
  obtain⟨o,e,c,d⟩:=st
  exact⟨o,e,fun v z=>by rw [d] at z; cases z⟩
 keep:=fun i h h' st k=>st.at fun o e=>k it (by simp) o e
 item:=by
  intro X hP hw hK hc i pins s σ H E I hf st hg
  subst hP hw hK
  obtain⟨xs,x,hq,hx⟩:=hg
  obtain⟨its,rv,p,hz⟩:=I.tuple hq
  obtain⟨u,hu,ru⟩:=rv.get hx
  obtain⟨f0,f1,f2,f3,f4,f5⟩:=hf it (by simp)
  refine wpAny_pyNext_tuple_item st (show s.heap.IsTuple a its.toArray from p) (x:=u) (by simpa using hu) fun h' st' sb=>?_
  have I1:Inv X pins σ H {s with heap:=h'}:=I.turned (t':=s.toks) (fun b o hb e=>(sb.2 b hb).trans e) f0 f1 f3 f4 f5
  obtain⟨o,e,c,d⟩:=id st'
  exact⟨u,rfl,pI (s:={s with heap:=h'}) e c d (by decide) ⟨x,H,I1,ru,⟨rfl,fun ys hy=>by rw [I.tuple_inj hy hq]; exact hx⟩,st',fun b hb=>(hf b hb).1⟩⟩
 done:=by
  intro X hP hw hK hc i pins s σ H E I hf st hg
  subst hP hw hK
  obtain⟨xs,hq,hx⟩:=hg
  obtain⟨its,rv,p,hz⟩:=I.tuple hq
  obtain⟨f0,f1,f2,f3,f4,f5⟩:=hf it (by simp)
  have hl:=rv.length
  exact wpAny_pyNext_tuple_end (I.ok.hd hc) st (show s.heap.IsTuple a its.toArray from p) (by simp; omega) fun h' eb=>⟨rfl,I.turned (t':=s.toks) (fun b o hb e=>eb b o hb e) f0 f1 f3 f4 f5⟩
 self:=fun _ _ _ _ _ st h=>wpAny_pyIter_tupleiter st h
theorem nj{P:Program}{w:World}{K:WB}{tg:Expr}(it:Addr)(lo:Int)(n:Nat):jt P w K tg (Itr lo n) [it] it (fun i h=>IsRangeIter h it (lo+(i:Nat)*1) ((n:Int) - (i:Nat)) 1) where
 mem:=by simp
 obj:=fun i h st b hb=>by
  have e:b=it:=by simpa using hb
  subst e
  exact⟨_,st,fun v z=>by
   have z':Data.fields _=Data.cell v:=z
   cases z'⟩
 keep:=fun i h h' st k=>k it (by simp) _ st
 item:=by
  intro X hP hw hK hc i pins s σ H E I hf st hg
  subst hP hw hK
  obtain⟨f0,f1,f2,f3,f4,f5⟩:=hf it (by simp)
  have W:=Walks.range (prog:=X.prog) (w:=X.w) (I.ok.hd hc) it lo 1 n
  refine W.item i s _ _ hg st fun v h' tk hv st' kk=>?_
  obtain⟨t,rfl⟩:=hv
  have I1:Inv X pins σ H {s with heap:=h',toks:=tk}:=I.turned (fun b o hb e=>kk b o (by simpa using hb) e) f0 f1 f3 f4 f5
  refine⟨_,rfl,pI (s:={s with heap:=h',toks:=tk}) (n:="range_iterator") st' rfl rfl (by decide) ⟨.int (lo+i),H,I1,⟨t,?_⟩,⟨rfl,rfl⟩,st',fun b hb=>(hf b hb).1⟩⟩
  rw [Int.mul_one]
 done:=by
  intro X hP hw hK hc i pins s σ H E I hf st hg
  subst hP hw hK
  obtain⟨f0,f1,f2,f3,f4,f5⟩:=hf it (by simp)
  exact wpAny_pyNext_range_end (I.ok.hd hc) st (by have : n≤i:=hg; omega) fun h' eb=>⟨rfl,I.turned (t':=s.toks) (fun b o hb e=>eb b o hb e) f0 f1 f3 f4 f5⟩
 self:=fun _ _ _ _ _ st h=>wpAny_pyIter_rangeiter st h
section
variable{X:Cx}{tg:Expr}
inductive iListI(K:WB)(R:It→Hp→Prop)(x:V)(H1:Hp):Prop | mk (a) (_:x=.ref a) (_:(∃ xs,SqL K H1 a xs)) (_:R (Itl K a) H1)
def xc(K:WB)(tl:TE):TI:=fun σ H R=>tl σ H (iListI K R)
inductive iTupI(K:WB)(R:It→Hp→Prop)(x:V)(H1:Hp):Prop | mk (a) (_:x=.ref a) (_:(∃ xs,SqT K H1 a xs)) (_:R (Itt K a) H1)
def zr(K:WB)(tl:TE):TI:=fun σ H R=>tl σ H (iTupI K R)
theorem fz{l:Expr}{tl:TE}(hl:PE X l tl):PI X tg l (xc X.K tl):=by
 intro pins s σ H R I h
 refine thn (hl pins s σ H _ I h) fun v s1 ⟨x,H1,I1,r1,q1⟩=>?_
 obtain⟨a,e,⟨xs,hq⟩,q⟩:=q1
 subst e
 cases r1
 obtain⟨its,rv,p,hz⟩:=I1.list hq
 refine wpAny_pyIter_list p.isList ?_
 refine⟨s1.heap.objs.size,[s1.heap.objs.size],_,_,H1,rfl,I1.kept (t':=s1.toks) fun b o e=>YA _ e,qb a _,⟨_,YJ _ rfl,rfl,rfl⟩,fun b hb=>?_,q⟩
 have e:b=s1.heap.objs.size:=by simpa using hb
 subst e
 exact I1.fpOk (YD _) (I1.hok.fresh (YD _))
theorem sE{l:Expr}{tl:TE}(hl:PE X l tl):PI X tg l (zr X.K tl):=by
 intro pins s σ H R I h
 refine thn (hl pins s σ H _ I h) fun v s1 ⟨x,H1,I1,r1,q1⟩=>?_
 obtain⟨a,e,⟨xs,hq⟩,q⟩:=q1
 subst e
 cases r1
 obtain⟨its,rv,p,hz⟩:=I1.tuple hq
 refine wpAny_pyIter_tuple (show s1.heap.IsTuple a its.toArray from p) ?_
 refine⟨s1.heap.objs.size,[s1.heap.objs.size],_,_,H1,rfl,I1.kept (t':=s1.toks) fun b o e=>YA _ e,ni a _,⟨_,YJ _ rfl,rfl,rfl⟩,fun b hb=>?_,q⟩
 have e:b=s1.heap.objs.size:=by simpa using hb
 subst e
 exact I1.fpOk (YD _) (I1.hok.fresh (YD _))
theorem su{pins:List (Addr×Obj)}{σ:St}{H:Hp}{s:Shared}{R:It→Hp→Prop}{E:Value→Shared→Prop}{lo hi:Int}{t u v:Tok}{tk:Nat}(I:Inv X pins σ H s)(h1:-(2 ^ 62)≤lo)(h2:lo<2 ^ 62)(h3:-(2 ^ 62)≤hi)(h4:hi<2 ^ 62)
  (q:R (Itr lo (hi-lo).toNat) H):wpAny (model X.prog X.w) X.A (pyIter (.ref s.heap.objs.size)) (PIE X pins σ tg R) E {s with heap:=s.heap.push {cls:=.type "range",data:=.fields #[.int lo t,.int hi u,.int 1 v]},toks:=tk}:=by
 refine wpAny_pyIter_range (IsRange.new ..) (small_one h1 h2 h3 h4) ?_
 have I1:Inv X pins σ H {s with heap:=s.heap.push {cls:=.type "range",data:=.fields #[.int lo t,.int hi u,.int 1 v]},toks:=tk}:=I.kept fun b o e=>YA _ e
 refine⟨(s.heap.push {cls:=.type "range",data:=.fields #[.int lo t,.int hi u,.int 1 v]}).objs.size,[(s.heap.push {cls:=.type "range",data:=.fields #[.int lo t,.int hi u,.int 1 v]}).objs.size],_,_,H,rfl,
  I1.kept (t':=tk) fun b o e=>YA _ e,nj _ lo (hi-lo).toNat,?_,fun b hb=>?_,q⟩
 ·have e1:lo+((0:Nat):Int)*1=lo:=by simp
  have e2:(((hi-lo).toNat:Nat):Int) - ((0:Nat):Int)=Builtin.Range.rangeSize lo hi 1:=by rw [rangeSize_one]; split <;> omega
  show IsRangeIter _ _ (lo+((0:Nat):Int)*1) ((((hi-lo).toNat:Nat):Int) - ((0:Nat):Int)) 1
  rw [e1,e2]
  exact YJ _ rfl
 ·have e:b=(s.heap.push {cls:=.type "range",data:=.fields #[.int lo t,.int hi u,.int 1 v]}).objs.size:=by simpa using hb
  subst e
  exact I1.fpOk (YD _) (I1.hok.fresh (YD _))
inductive iRng1I(R:It→Hp→Prop)(vs:List V)(H1:Hp):Prop | mk (j:Int) (_:vs=[.int j]) (_:-(2 ^ 62)≤j) (_:j<2 ^ 62) (_:R (Itr 0 j.toNat) H1)
def xb(ta:TA):TI:=fun σ H R=>ta σ H (iRng1I R)
theorem jH{a:Expr}{ta:TA}{p pos:Pos}(hg:Gl X "range")(hm:X.mg "range"=none)(ha:PA X [a] ta)(hs:starEach [a] X.env=[(false,eval a X.env)]:=by rfl):PI X tg (.Call (.Name "range" p) [a] [] pos) (xb ta):=by
 intro pins s σ H R I h
 refine Call_ (je I hg hm boot_range (PyProof.Rows.callWith_type1 (thn (ha pos pins s σ H _ I h) fun us s1 ⟨vs,H1,I1,r1,q1⟩=>?_) hs rfl))
 obtain⟨j,e,q1,q2,q⟩:=q1
 subst e
 cases r1 with
 | cons r rr=>
  cases rr
  obtain⟨t,rfl⟩:=r
  exact call_range_1 (su I1 (by omega) (by omega) q1 q2 (by simpa using q))
def zQ(wi:TI)(g:TG)(tb:TS):TS:=fun D σ H=>wi σ H fun J H1=>∃ W:Nat→Nat→St→Hp→Prop,(∃ m,W 0 m σ H1)∧∀ i m σ H,W i m σ H→
 (J.stop i H∧D.nx σ H)∨(J.go i H∧∃ N:St→Hp→Prop,(∀ σ' H',N σ' H'→∃ m',m'<m∧W (i+1) m' σ' H')∧∀ x H',J.yld i H x H'→g x σ H' fun σ2 H2=>tb {D with nx:=N,ct:=N,bk:=D.nx} σ2 H2)
def b8(fp:List Addr)(h:Heap):List (Addr×Obj):=fp.filterMap fun b=>(h.get? b).map fun o=>(b,o)
theorem ba{fp:List Addr}{h:Heap}{b:Addr}{o:Obj}(hb:b∈fp)(e:h.get? b=some o):(b,o)∈b8 fp h:=List.mem_filterMap.mpr ⟨b,hb,by rw [e]; rfl⟩
theorem dY{fp:List Addr}{h:Heap}{p:Addr×Obj}(hp:p∈b8 fp h):p.1∈fp∧h.get? p.1=some p.2:=by
 obtain⟨b,hb,e⟩:=List.mem_filterMap.mp hp
 cases q:h.get? b with
 | none=>rw [q] at e; cases e
 | some o=>
  rw [q] at e
  have e':(b,o)=p:=Option.some.inj e
  subst e'
  exact⟨hb,q⟩
theorem Inv.pinned{pins:List (Addr×Obj)}{σ:St}{H:Hp}{s:Shared}{fp:List Addr}(I:Inv X pins σ H s)(hf:∀ b∈fp,d3 X pins H b)(ho:∀ b∈fp,∃ o,s.heap.get? b=some o∧∀ v,o.data≠.cell v):Inv X (pins++b8 fp s.heap) σ H s:=
 I.pins_of fun p hp=>(Y3.mp hp).elim (fun z=>I.pin p (YI _ z)) fun z=>by
  obtain⟨hb,e⟩:=dY z
  obtain⟨f0,f1,f2,_⟩:=hf p.1 hb
  obtain⟨o,e',d⟩:=ho p.1 hb
  rw [e] at e'; cases e'
  exact⟨e,f0,f1,f2,d⟩
theorem Inv.unpinned{pins pl:List (Addr×Obj)}{σ:St}{H:Hp}{s:Shared}(I:Inv X (pins++pl) σ H s):Inv X pins σ H s:=I.pins_of fun p hp=>I.pin p (YI _ (XC _ hp))
theorem nQ{iter:Expr}{body:List Stmt}{wi:TI}{g:TG}{tb:TS}{pos:Pos}(hp:PassesOwn (model X.prog X.w) X.A X.env X.xe)(hc:X.calm=true)(hi:PI X tg iter wi)(hg:PG X tg g)(hb:PSs X body tb)
  (hs:∀ x,foldedSetIterable iter X.env x=pure x:=by intro _; rfl):PS X (.For tg iter body [] pos) (zQ wi g tb):=by
 intro pins s σ H D I h
 refine wpAny_For (thn (hi pins s σ H _ I h) fun v s1 h1=>thn h1 fun itv s2 h2=>?_) hs
 obtain⟨it,fp,tn,J,H2,e,I2,T,st2,f2,W,⟨m0,w0⟩,turn⟩:=h2
 subst e
 have stat:∀ {H':Hp},(∀ b∈fp,H' b=none)→∀ b∈fp,d3 X pins H' b:=fun hn b hb=>⟨hn b hb,(f2 b hb).2⟩
 refine codeAny_forLoop_any (fun n s'=>∃ i σ' H',Inv X pins σ' H' s'∧tn i s'.heap∧(∀ b∈fp,H' b=none)∧W i n σ' H') ?_ m0 ⟨0,σ,H2,I2,st2,fun b hb=>(f2 b hb).1,w0⟩
 rintro n s3 ⟨i,σ3,H3,I3,st3,fr3,w3⟩
 rcases turn i n σ3 H3 w3 with ⟨stop,qn⟩ | ⟨go,N,hN,step⟩
 ·refine wpAny_passesOwn hp (thn (T.done X rfl rfl rfl hc i pins s3 σ3 H3 X.xe I3 (stat fr3) st3 stop) fun r s4 ⟨hr,I4⟩=>?_)
  subst hr
  exact wpAny_execs_nil ⟨σ3,H3,I4,qn⟩
 ·refine wpAny_passesOwn hp (thn (T.item X rfl rfl rfl hc i pins s3 σ3 H3 X.xe I3 (stat fr3) st3 go) fun r s4 ⟨u,hr,h4⟩=>?_)
  subst hr
  refine wpAny_passesOwn hp (thn h4 fun _ s5 ⟨x,H5,I5,r5,y5,st5,fr5⟩=>?_)
  have I5':=I5.pinned (stat fr5) (T.obj _ _ st5)
  refine wpAny_passesOwn hp (thn (hg _ s5 σ3 H5 x u _ I5' r5 (step x H5 y5)) fun _ s6 ⟨σ6,H6,I6,q6⟩=>?_)
  refine wpAny_passesOwn hp (thn (hb _ s6 σ6 H6 _ I6 q6) fun f s7 q7=>?_)
  have again:∀ {σ7:St} {H7:Hp},Inv X (pins++b8 fp s5.heap) σ7 H7 s7→N σ7 H7→∃ m,m<n∧∃ i σ' H',Inv X pins σ' H' s7∧tn i s7.heap∧(∀ b∈fp,H' b=none)∧W i m σ' H':=fun {σ7 H7} I7 n7=>by
   obtain⟨m',hm,w7⟩:=hN σ7 H7 n7
   refine⟨m',hm,i+1,σ7,H7,I7.unpinned,T.keep _ _ _ st5 fun b hb o e=>(I7.pin (b,o) (YI _ (YI _ (ba hb e)))).1,fun b hb=>?_,w7⟩
   obtain⟨o,e,d⟩:=T.obj _ _ st5 b hb
   exact(I7.pin (b,o) (YI _ (YI _ (ba hb e)))).2.1
  cases f with
  | next=>obtain⟨σ7,H7,I7,n7⟩:=q7; exact again I7 n7
  | cont=>obtain⟨σ7,H7,I7,n7⟩:=q7; exact again I7 n7
  | brk=>obtain⟨σ7,H7,I7,q7⟩:=q7; exact⟨σ7,H7,I7.unpinned,q7⟩
  | ret v=>obtain⟨x7,σ7,H7,I7,r7,q7⟩:=q7; exact⟨x7,σ7,H7,I7.unpinned,r7,q7⟩
end
theorem jm{K:WB}{a:Addr}{xs:List V}{g:TG}{tb:TS}{D:gO}{σ:St}{H:Hp}(Pv:Nat→St→Hp→Prop)(h0:Pv 0 σ H)(hl:∀ i σ H,i≤xs.length→Pv i σ H→SqL K H a xs)
  (hs:∀ i x σ H,xs[i]? = some x→Pv i σ H→g x σ H fun σ2 H2=>tb {D with nx:=Pv (i+1),ct:=Pv (i+1),bk:=D.nx} σ2 H2) (hd:∀ σ H,Pv xs.length σ H→D.nx σ H) :
  ∃ W:Nat→Nat→St→Hp→Prop,(∃ m,W 0 m σ H)∧∀ i m σ H,W i m σ H→
   ((Itl K a).stop i H∧D.nx σ H)∨((Itl K a).go i H∧∃ N:St→Hp→Prop,(∀ σ' H',N σ' H'→∃ m',m'<m∧W (i+1) m' σ' H')∧∀ x H',(Itl K a).yld i H x H'→g x σ H' fun σ2 H2=>tb {D with nx:=N,ct:=N,bk:=D.nx} σ2 H2):=by
 refine⟨fun i m σ H=>m=xs.length-i∧i≤xs.length∧Pv i σ H,⟨xs.length,by simp,YO _,h0⟩,?_⟩
 rintro i m σ H ⟨rfl,hi,p⟩
 have q:=hl i σ H hi p
 by_cases hlt:i<xs.length
 ·refine .inr ⟨⟨xs,xs[i],q,by simp [hlt]⟩,Pv (i+1),fun σ' H' p'=>⟨xs.length - (i+1),by omega,rfl,hlt,p'⟩,fun x H' y=>?_⟩
  obtain⟨e,y⟩:=y
  subst e
  exact hs i x σ _ (y xs q) p
 ·have e:i=xs.length:=by omega
  subst e
  exact .inl ⟨⟨xs,q,YD _⟩,hd σ H p⟩
theorem qM{lo:Int}{n:Nat}{g:TG}{tb:TS}{D:gO}{σ:St}{H:Hp}(Pv:Nat→St→Hp→Prop)(h0:Pv 0 σ H)
  (hs:∀ i σ H,i<n→Pv i σ H→g (.int (lo+i)) σ H fun σ2 H2=>tb {D with nx:=Pv (i+1),ct:=Pv (i+1),bk:=D.nx} σ2 H2) (hd:∀ σ H,Pv n σ H→D.nx σ H) :
  ∃ W:Nat→Nat→St→Hp→Prop,(∃ m,W 0 m σ H)∧∀ i m σ H,W i m σ H→
   ((Itr lo n).stop i H∧D.nx σ H)∨((Itr lo n).go i H∧∃ N:St→Hp→Prop,(∀ σ' H',N σ' H'→∃ m',m'<m∧W (i+1) m' σ' H')∧∀ x H',(Itr lo n).yld i H x H'→g x σ H' fun σ2 H2=>tb {D with nx:=N,ct:=N,bk:=D.nx} σ2 H2):=by
 refine⟨fun i m σ H=>m=n-i∧i≤n∧Pv i σ H,⟨n,by simp,YO _,h0⟩,?_⟩
 rintro i m σ H ⟨rfl,hi,p⟩
 by_cases hlt:i<n
 ·refine .inr ⟨hlt,Pv (i+1),fun σ' H' p'=>⟨n - (i+1),by omega,rfl,hlt,p'⟩,fun x H' y=>?_⟩
  obtain⟨e,y⟩:=y
  subst e y
  exact hs i σ _ hlt p
 ·have e:i=n:=by omega
  subst e
  exact .inl ⟨YD _,hd σ H p⟩
abbrev R2:=V→V→Hp→VK→Prop
def OpR(X:Cx)(f:Value→Value→Sem Value)(r:R2):Prop:=
 ∀ (pins:List (Addr×Obj)) (s:Shared) (σ:St) (H:Hp) (x y:V) (v u:Value) (Q:VK),Inv X pins σ H s→ar x v→ar y u→r x y H Q→
  wpAny (model X.prog X.w) X.A (f v u) (EP X pins σ Q) X.xe s
def bZ(X:Cx)(f:Value)(r:List V→Hp→VK→Prop):Prop:=
 ∀ (pins:List (Addr×Obj)) (s:Shared) (σ:St) (H:Hp) (xs:List V) (us:List Value) (Q:VK),Inv X pins σ H s→ax xs us→r xs H Q→
  wpAny (model X.prog X.w) X.A (call f us) (EP X pins σ Q) X.xe s
def tOp(r:R2)(ta tb:TE):TE:=fun σ H Q=>ta σ H fun x H1=>tb σ H1 fun y H2=>r x y H2 Q
inductive rI(C:Int→Int→Prop)(g:Int→Int→V)(x y:V)(H:Hp)(Q:VK):Prop | mk (i j) (_:x=.int i) (_:y=.int j) (_:C i j) (_:Q (g i j) H)
inductive rI0(g:Int→Int→V)(x y:V)(H:Hp)(Q:VK):Prop | mk (i j) (_:x=.int i) (_:y=.int j) (_:Q (g i j) H)
section
variable{X:Cx}{a b c:Expr}{ta tb tc:TE}{pos:Pos}
theorem yJ(ha:PE X a ta)(hb:PE X b tb){pins:List (Addr×Obj)}{s:Shared}{σ:St}{H:Hp}{R:V→V→Hp→Prop}(I:Inv X pins σ H s)
  (h:ta σ H fun x H1=>tb σ H1 fun y H2=>R x y H2) {Q:Value→Shared→Prop} {f:Value→Value→Sem Value}
  (hf:∀ v u s2 x y H2,Inv X pins σ H2 s2→ar x v→ar y u→R x y H2→wpAny (model X.prog X.w) X.A (f v u) Q X.xe s2) :
  wpAny (model X.prog X.w) X.A (eval a X.env) (fun v s₁=>wpAny (model X.prog X.w) X.A (eval b X.env) (fun u s₂=>wpAny (model X.prog X.w) X.A (f v u) Q X.xe s₂) X.xe s₁) X.xe s:=by
 refine thn (ha pins s σ H _ I h) fun v s1 ⟨x,H1,I1,r1,q1⟩=>?_
 refine thn (hb pins s1 σ H1 _ I1 q1) fun u s2 ⟨y,H2,I2,r2,q2⟩=>?_
 exact hf v u s2 x y H2 I2 r1 r2 q2
theorem dX{op:Operator}{r:R2}(ho:OpR X (binaryOp op) r)(ha:PE X a ta)(hb:PE X b tb):PE X (.BinOp a op b pos) (tOp r ta tb):=by
 intro pins s σ H Q I h
 exact wpAny_BinOp (yJ ha hb I h fun v u s2 x y H2 I2 rx ry q=>ho pins s2 σ H2 x y v u Q I2 rx ry q)
theorem opI{f:Value→Value→Sem Value}{C:Int→Int→Prop}{g:Int→Int→Int}
  (rule:∀ (i j:Int) (t u:Tok) (s:Shared) (Q:Value→Shared→Prop) (E:Value→Shared→Prop),C i j→Q (.int (g i j) s.toks) {s with toks:=s.toks+1}→wpAny (model X.prog X.w) X.A (f (.int i t) (.int j u)) Q E s) :
  OpR X f (rI C fun i j=>.int (g i j)):=by
 intro pins s σ H x y v u Q I rx ry h
 obtain⟨i,j,rfl,rfl,hc,q⟩:=h
 obtain⟨t,rfl⟩:=rx
 obtain⟨t',rfl⟩:=ry
 exact rule i j t t' s _ _ hc ⟨.int (g i j),H,I.tok _,⟨_,rfl⟩,q⟩
theorem ze{f:Value→Value→Sem Value}{g:Int→Int→Int}
  (rule:∀ (i j:Int) (t u:Tok) (s:Shared) (Q:Value→Shared→Prop) (E:Value→Shared→Prop),Q (.int (g i j) s.toks) {s with toks:=s.toks+1}→wpAny (model X.prog X.w) X.A (f (.int i t) (.int j u)) Q E s) :
  OpR X f (rI0 fun i j=>.int (g i j)):=by
 intro pins s σ H x y v u Q I rx ry h
 obtain⟨i,j,rfl,rfl,q⟩:=h
 obtain⟨t,rfl⟩:=rx
 obtain⟨t',rfl⟩:=ry
 exact rule i j t t' s _ _ ⟨.int (g i j),H,I.tok _,⟨_,rfl⟩,q⟩
theorem xY{f:Value→Value→Sem Value}{g:Int→Int→Bool}
  (rule:∀ (i j:Int) (t u:Tok) (s:Shared) (Q:Value→Shared→Prop) (E:Value→Shared→Prop),Q (.bool (g i j)) s→wpAny (model X.prog X.w) X.A (f (.int i t) (.int j u)) Q E s) :
  OpR X f (rI0 fun i j=>.bl (g i j)):=by
 intro pins s σ H x y v u Q I rx ry h
 obtain⟨i,j,rfl,rfl,q⟩:=h
 obtain⟨t,rfl⟩:=rx
 obtain⟨t',rfl⟩:=ry
 exact rule i j t t' s _ _ ⟨.bl (g i j),H,I,rfl,q⟩
def zD(i j:Int):Prop:=0<j∧j<1073741824
def AF(i j:Int):Prop:=0≤j∧j≤1000000∧i.natAbs<2 ^ 64
def yN(i j:Int):Prop:=(-(2 ^ 64)<i∧i<2 ^ 64)∨(-(2 ^ 64)<j∧j<2 ^ 64)
theorem yN.ok{i j:Int}(h:yN i j):IntMulOk i j:=by
 rcases h with ⟨h1,h2⟩ | ⟨h1,h2⟩
 ·exact .of_left (intBits_le_64 h1 h2)
 ·exact .of_right (intBits_le_64 h1 h2)
theorem xX:OpR X (binaryOp .Add) (rI0 fun i j=>.int (i+j)):=ze fun _ _ _ _ _ _ _ q=>add_int q
theorem sO:OpR X (binaryOp .Sub) (rI0 fun i j=>.int (i-j)):=ze fun _ _ _ _ _ _ _ q=>sub_int q
theorem xU:OpR X (binaryOp .Mult) (rI yN fun i j=>.int (i*j)):=opI fun _ _ _ _ _ _ _ hc q=>mul_int q hc.ok
theorem vF:OpR X (binaryOp .FloorDiv) (rI zD fun i j=>.int (i / j)):=opI fun i j _ _ _ _ _ hc q=>by
 have h1:(0:Int)<j:=hc.1
 have h2:j<1073741824:=hc.2
 exact floordiv_int (by omega) (by rw [Int.fdiv_eq_ediv_of_nonneg i (by omega)]; exact q) (.inl (PyProof.noPylong_small (by omega)))
theorem xV:OpR X (binaryOp .Mod) (rI (fun _ j=>0<j) fun i j=>.int (i % j)):=opI fun i j _ _ _ _ _ hc q=>by
 have h1:(0:Int)<j:=hc
 exact mod_int' (by omega) (by rw [Int.fmod_eq_emod_of_nonneg i (by omega)]; exact q)
theorem xT:OpR X (binaryOp .Pow) (rI AF fun i j=>.int (i ^ j.toNat)):=opI fun _ _ _ _ _ _ _ hc q=>pow_int_small hc.1 hc.2.1 hc.2.2 q
end
def y4:V→V→Bool
 | .non,.non=>true | .non,.int _=>true | .int _,.non=>true | .non,.bl _=>true | .bl _,.non=>true | .non,.str _=>true | .str _,.non=>true
 | .int _,.int _=>true | .bl _,.bl _=>true | .str _,.str _=>true | .byt _,.byt _=>true
 | .int _,.str _=>true | .str _,.int _=>true | .bl _,.str _=>true | .str _,.bl _=>true
 | _,_=>false
def rEq:R2:=fun x y H Q=>y4 x y=true∧Q (.bl (decide (x=y))) H
def rNe:R2:=fun x y H Q=>y4 x y=true∧Q (.bl (!decide (x=y))) H
theorem pL{i j:Int}:decide (V.int i=V.int j)=(i==j):=by
 rw [X4]
 simp
theorem uP{i j:Bool}:decide (V.bl i=V.bl j)=(i==j):=by
 rw [X4]
 simp
theorem pK{i j:Str}:decide (V.str i=V.str j)=(i==j):=by
 rw [X4]
 simp
theorem pM{i j:Array UInt8}:decide (V.byt i=V.byt j)=(i.toList==j.toList):=by
 rw [X4]
 cases i
 cases j
 simp
section
variable{X:Cx}{a b c:Expr}{ta tb tc:TE}{pos:Pos}
theorem aG{pins:List (Addr×Obj)}{σ:St}{H:Hp}{s:Shared}{Q:VK}{k k':Bool}(I:Inv X pins σ H s)(q:Q (.bl k) H)(e:k=k'):EP X pins σ Q (.bool k') s:=by
 subst e
 exact⟨.bl k,H,I,rfl,q⟩
theorem sR:OpR X (compareOp .Eq) rEq:=by
 intro pins s σ H x y v u Q I rx ry h
 obtain⟨hs,q⟩:=h
 cases x with
 | non=>
  cases rx
  cases y with
  | non=>cases ry; exact PySem.EqNone.eq_none_none (aG I q (by simp))
  | bl j=>cases ry; exact PySem.EqNone.eq_none_bool (aG I q (by simp))
  | int j=>obtain⟨t',rfl⟩:=ry; exact PySem.EqNone.eq_none_int (aG I q (by simp))
  | str j=>obtain⟨t',rfl⟩:=ry; exact PySem.EqNone.eq_none_str (aG I q (by simp))
  | _=>exact absurd (show false=true from hs) YN
 | bl i=>
  cases rx
  cases y with
  | non=>cases ry; exact PySem.EqNone.eq_bool_none (aG I q (by simp))
  | bl j=>cases ry; exact eq_bool (aG I q uP)
  | str j=>obtain⟨t',rfl⟩:=ry; exact PySem.EqMixed.eq_bool_str (aG I q (by simp))
  | _=>exact absurd (show false=true from hs) YN
 | int i=>
  obtain⟨t,rfl⟩:=rx
  cases y with
  | non=>cases ry; exact PySem.EqNone.eq_int_none (aG I q (by simp))
  | int j=>obtain⟨t',rfl⟩:=ry; exact eq_int (aG I q pL)
  | str j=>obtain⟨t',rfl⟩:=ry; exact PySem.EqMixed.eq_int_str (aG I q (by simp))
  | _=>exact absurd (show false=true from hs) YN
 | str i=>
  obtain⟨t,rfl⟩:=rx
  cases y with
  | non=>cases ry; exact PySem.EqNone.eq_str_none (aG I q (by simp))
  | bl j=>cases ry; exact PySem.EqMixed.eq_str_bool (aG I q (by simp))
  | int j=>obtain⟨t',rfl⟩:=ry; exact PySem.EqMixed.eq_str_int (aG I q (by simp))
  | str j=>obtain⟨t',rfl⟩:=ry; exact eq_str (aG I q pK)
  | _=>exact absurd (show false=true from hs) YN
 | byt i=>
  obtain⟨t,rfl⟩:=rx
  cases y with
  | byt j=>obtain⟨t',rfl⟩:=ry; exact PySem.W.eq_bytes (aG I q pM)
  | _=>exact absurd (show false=true from hs) YN
 | _=>cases y <;> exact absurd (show false=true from hs) YN
theorem lV:OpR X (compareOp .NotEq) rNe:=by
 intro pins s σ H x y v u Q I rx ry h
 obtain⟨hs,q⟩:=h
 cases x with
 | non=>
  cases rx
  cases y with
  | non=>cases ry; exact PySem.EqNone.ne_none_none (aG I q (by simp))
  | bl j=>cases ry; exact PySem.EqNone.ne_none_bool (aG I q (by simp))
  | int j=>obtain⟨t',rfl⟩:=ry; exact PySem.EqNone.ne_none_int (aG I q (by simp))
  | str j=>obtain⟨t',rfl⟩:=ry; exact PySem.EqNone.ne_none_str (aG I q (by simp))
  | _=>exact absurd (show false=true from hs) YN
 | bl i=>
  cases rx
  cases y with
  | non=>cases ry; exact PySem.EqNone.ne_bool_none (aG I q (by simp))
  | bl j=>cases ry; exact ne_bool (aG I q (congrArg not uP))
  | str j=>obtain⟨t',rfl⟩:=ry; exact PySem.EqMixed.ne_bool_str (aG I q (by simp))
  | _=>exact absurd (show false=true from hs) YN
 | int i=>
  obtain⟨t,rfl⟩:=rx
  cases y with
  | non=>cases ry; exact PySem.EqNone.ne_int_none (aG I q (by simp))
  | int j=>obtain⟨t',rfl⟩:=ry; exact ne_int (aG I q (congrArg not pL))
  | str j=>obtain⟨t',rfl⟩:=ry; exact PySem.EqMixed.ne_int_str (aG I q (by simp))
  | _=>exact absurd (show false=true from hs) YN
 | str i=>
  obtain⟨t,rfl⟩:=rx
  cases y with
  | non=>cases ry; exact PySem.EqNone.ne_str_none (aG I q (by simp))
  | bl j=>cases ry; exact PySem.EqMixed.ne_str_bool (aG I q (by simp))
  | int j=>obtain⟨t',rfl⟩:=ry; exact PySem.EqMixed.ne_str_int (aG I q (by simp))
  | str j=>obtain⟨t',rfl⟩:=ry; exact ne_str (aG I q (congrArg not pK))
  | _=>exact absurd (show false=true from hs) YN
 | byt i=>
  obtain⟨t,rfl⟩:=rx
  cases y with
  | byt j=>obtain⟨t',rfl⟩:=ry; exact PySem.W.ne_bytes (aG I q (congrArg not pM))
  | _=>exact absurd (show false=true from hs) YN
 | _=>cases y <;> exact absurd (show false=true from hs) YN
theorem zc:OpR X (compareOp .Lt) (rI0 fun i j=>.bl (decide (i<j))):=xY fun _ _ _ _ _ _ _ q=>lt_int q
theorem wX:OpR X (compareOp .LtE) (rI0 fun i j=>.bl (decide (i≤j))):=xY fun _ _ _ _ _ _ _ q=>le_int q
theorem zd:OpR X (compareOp .Gt) (rI0 fun i j=>.bl (decide (j<i))):=xY fun _ _ _ _ _ _ _ q=>gt_int q
inductive rOp_in_strI(x y:V)(H:Hp)(Q:VK):Prop | mk (i j) (_:x=.str i) (_:y=.str j) (_:Q (.bl (!(Builtin.Str.occurrences j i 0 j.length 1).isEmpty)) H)
theorem jJ:OpR X (compareOp .In) rOp_in_strI:=by
 intro pins s σ H x y v u Q I rx ry h
 obtain⟨i,j,rfl,rfl,q⟩:=h
 obtain⟨t,rfl⟩:=rx
 obtain⟨t',rfl⟩:=ry
 exact in_str (aG I q rfl)
theorem xW:OpR X (compareOp .Is) (fun x y H Q=>y=.non∧Q (.bl (decide (x=.non))) H):=by
 intro pins s σ H x y v u Q I rx ry h
 obtain⟨rfl,q⟩:=h
 cases ry
 refine is_none_gen (aG I q ?_)
 cases x <;> first
  | (cases rx; rfl)
  | (obtain⟨t,rfl⟩:=rx; rfl)
theorem vE:OpR X (compareOp .IsNot) (fun x y H Q=>y=.non∧Q (.bl (!decide (x=.non))) H):=by
 intro pins s σ H x y v u Q I rx ry h
 obtain⟨rfl,q⟩:=h
 cases ry
 refine isnot_none_gen (aG I q ?_)
 cases x <;> first
  | (cases rx; rfl)
  | (obtain⟨t,rfl⟩:=rx; rfl)
theorem dQ(b:Expr){op:CmpOp}(h:op≠.In:=by decide)(h2:op≠.NotIn:=by decide):behindInMarks op b=false:=by
 have e1:(op==CmpOp.In)=false:=by cases op <;> first | rfl | exact absurd rfl h
 have e2:(op==CmpOp.NotIn)=false:=by cases op <;> first | rfl | exact absurd rfl h2
 cases b <;> simp [behindInMarks,e1,e2]
theorem ee{op:CmpOp}{r:R2}(ho:OpR X (compareOp op) r)(ha:PE X a ta)(hb:PE X b tb)(hm:behindInMarks op b=false):PE X (.Compare a [op] [b] pos) (tOp r ta tb):=by
 intro pins s σ H Q I h
 exact wpAny_Compare1 (yJ ha hb I h fun v u s2 x y H2 I2 rx ry q=>ho pins s2 σ H2 x y v u Q I2 rx ry q) hm
inductive tTestI(Q:Bool→Hp→Prop)(x:V)(H':Hp):Prop | mk (k) (_:x=.bl k) (_:Q k H')
def wT(t:TE):TT:=fun σ H Q=>t σ H (tTestI Q)
theorem br{op:CmpOp}{r:R2}(ho:OpR X (compareOp op) r)(ha:PE X a ta)(hb:PE X b tb)(hm:behindInMarks op b=false):PT X (.Compare a [op] [b] pos) (wT (tOp r ta tb)):=by
 intro pins s σ H Q I h
 refine wpAny_isTrue_Compare1 (thn (ha pins s σ H _ I h) fun v s1 ⟨x,H1,I1,r1,q1⟩=>thn (hb pins s1 σ H1 _ I1 q1) fun u s2 ⟨y,H2,I2,r2,q2⟩=>
  thn (ho pins s2 σ H2 x y v u _ I2 r1 r2 q2) fun c s3 ⟨z,H3,I3,r3,k,e,q3⟩=>?_) hm
 subst e
 cases r3
 exact wpAny_truthy_bool ⟨H3,I3,q3⟩
inductive tChainI(r':R2)(tc:TE)(σ:St)(Q:VK)(y z:V)(H3:Hp):Prop | mk (k) (_:z=.bl k) (_:(if k=true then tc σ H3 fun w' H4=>r' y w' H4 Q else Q (.bl false) H3))
def xr(r r':R2)(ta tb tc:TE):TE:=fun σ H Q=>ta σ H fun x H1=>tb σ H1 fun y H2=>r x y H2 (tChainI r' tc σ Q y)
theorem sv{op op':CmpOp}{r r':R2}(ho:OpR X (compareOp op) r)(ho':OpR X (compareOp op') r')(ha:PE X a ta)(hb:PE X b tb)(hc:PE X c tc)
  (hm:lastMarks [op,op'] [b,c]=false:=by with_unfolding_all rfl):PT X (.Compare a [op,op'] [b,c] pos) (wT (xr r r' ta tb tc)):=by
 intro pins s σ H Q I h
 refine isTrue_chain (thn (ha pins s σ H _ I h) fun v s1 ⟨x,H1,I1,r1,q1⟩=>test_link (thn (hb pins s1 σ H1 _ I1 q1) fun u s2 ⟨y,H2,I2,r2,q2⟩=>
  thn (ho pins s2 σ H2 x y v u _ I2 r1 r2 q2) fun d s3 ⟨z,H3,I3,r3,k,e,q3⟩=>?_)) hm
 subst e
 cases r3
 refine wpAny_truthy_bool ?_
 cases k with
 | false=>
  obtain⟨k',e',q'⟩:=q3
  cases e'
  exact ite_ff ⟨H3,I3,q'⟩
 | true=>
  refine ite_tt (test_last (thn (hc pins s3 σ H3 _ I3 q3) fun w' s4 ⟨z',H4,I4,r4,q4⟩=>thn (ho' pins s4 σ H4 y z' u w' _ I4 r2 r4 q4) fun d' s5 ⟨z2,H5,I5,r5,k2,e2,q5⟩=>?_))
  subst e2
  cases r5
  exact wpAny_truthy_bool ⟨H5,I5,q5⟩
theorem gc:(sizeLine:Nat)<2 ^ 63:=by rw [sizeLine_eq]; decide
inductive rOp_add_strI(x y:V)(H:Hp)(Q:VK):Prop | mk (i j) (_:x=.str i) (_:y=.str j) (_:i.length+j.length≤sizeLine) (_:Q (.str (i++j)) H)
theorem nV:OpR X (binaryOp .Add) rOp_add_strI:=by
 intro pins s σ H x y v u Q I rx ry h
 obtain⟨i,j,rfl,rfl,hz,q⟩:=h
 obtain⟨t,rfl⟩:=rx
 obtain⟨t',rfl⟩:=ry
 exact add_str (fun t' tk=>⟨.str (i++j),H,I.tok _,⟨_,rfl⟩,q⟩) hz
theorem dj{x:V}{us:List Value}(r:ax [x] us):∃ u,us=[u]∧ar x u:=by
 cases r with
 | cons r1 r2=>cases r2; exact⟨_,rfl,r1⟩
theorem im{x y:V}{us:List Value}(r:ax [x,y] us):∃ u w',us=[u,w']∧ar x u∧ar y w':=by
 cases r with
 | cons r1 r2=>
  cases r2 with
  | cons r3 r4=>cases r4; exact⟨_,_,rfl,r1,r3⟩
inductive rCall_absI(xs:List V)(H:Hp)(Q:VK):Prop | mk (i) (_:xs=[.int i]) (_:Q (.int (if i<0 then -i else i)) H)
theorem uQ:bZ X (.builtin "abs") rCall_absI:=by
 intro pins s σ H xs us Q I r h
 obtain⟨i,rfl,q⟩:=h
 obtain⟨u,rfl,t,rfl⟩:=dj r
 exact call_abs_int fun u tk=>⟨.int (if i<0 then -i else i),H,I.tok _,⟨_,rfl⟩,q⟩
inductive rCall_max2I(xs:List V)(H:Hp)(Q:VK):Prop | mk (i j) (_:xs=[.int i,.int j]) (_:Q (.int (if j > i then j else i)) H)
theorem qV(hc:X.calm=true):bZ X (.builtin "max") rCall_max2I:=by
 intro pins s σ H xs us Q I r h
 obtain⟨i,j,rfl,q⟩:=h
 obtain⟨u,w',rfl,⟨t,rfl⟩,⟨t',rfl⟩⟩:=im r
 refine max_two_ints (I.ok.hd hc) fun h' tk k=>⟨_,H,I.kept k,?_,q⟩
 by_cases hj:j > i
 ·rw [if_pos hj,if_pos hj]; exact⟨_,rfl⟩
 ·rw [if_neg hj,if_neg hj]; exact⟨_,rfl⟩
theorem qY:bZ X (.type "int") (fun xs H Q=>(∃ i,xs=[.int i]∧Q (.int i) H)∨∃ k,xs=[.bl k]∧Q (.int (if k then 1 else 0)) H):=by
 intro pins s σ H xs us Q I r h
 rcases h with ⟨i,rfl,q⟩ | ⟨k,rfl,q⟩
 ·obtain⟨u,rfl,t,rfl⟩:=dj r
  exact call_int_int ⟨.int i,H,I,⟨_,rfl⟩,q⟩
 ·obtain⟨u,rfl,r1⟩:=dj r
  cases r1
  exact call_int_bool ⟨.int (if k then 1 else 0),H,I.tok _,⟨_,rfl⟩,q⟩
inductive rCall_divmodI(xs:List V)(H:Hp)(Q:VK):Prop | mk (i j) (_:xs=[.int i,.int j]) (_:zD i j) (_:∀ p,H p=none→Q (.ref p) (upd H p (.tup [.int (i / j),.int (i % j)])))
theorem mR:bZ X (.builtin "divmod") rCall_divmodI:=by
 intro pins s σ H xs us Q I r h
 obtain⟨i,j,rfl,⟨h1,h2⟩,q⟩:=h
 obtain⟨u,w',rfl,⟨t,rfl⟩,⟨t',rfl⟩⟩:=im r
 refine divmod_int (by omega) ?_ (.inl (PyProof.noPylong_small (by omega)))
 rw [Int.fdiv_eq_ediv_of_nonneg i (by omega),Int.fmod_eq_emod_of_nonneg i (by omega)]
 have hn:H s.heap.objs.size=none:=I.hok.fresh (YD _)
 refine⟨.ref s.heap.objs.size,_,?_,rfl,q _ hn⟩
 refine I.laid (fun b o e=>YA _ e) (YD _) ⟨by simp only [YR,List.length_nil]; rw [sizeLine_eq]; decide,[.int (i / j) s.toks,.int (i % j) (s.toks+1)],.cons ⟨_,rfl⟩ (.cons ⟨_,rfl⟩ .nil),?_⟩
 exact⟨_,YJ s.heap rfl,rfl,0,rfl⟩
end
structure oP(h:Heap)(x dx C:Addr)(mA:Str→Option Value):Prop where
 obj:h.get? x=some (PySem.W.instObj C dx)
 ns:h.Ns1 dx mA
 ne:dx≠x
theorem qE{h:Heap}{dx:Addr}{mA:Str→Option Value}(n:h.Ns1 dx mA):∃ od,h.get? dx=some od∧∀ name,PySem.W.lookIn name od=some (mA name):=by
 obtain⟨o,es,ep,ho,hd,hk,_,hm⟩:=n
 refine⟨o,ho,fun name=>?_⟩
 have e:=hm name
 unfold nsFind findBy at e
 rw [← Array.find?_toList] at e
 unfold PySem.W.lookIn
 rw [hd]
 dsimp only
 split
 ·rename_i y q
  rw [q] at e
  exact congrArg some e
 ·rename_i q
  rw [q] at e
  have a:es.toList.any (·.refKey)=false:=by
   rw [List.any_eq_false]
   intro y hy
   obtain⟨z,t,hkey⟩:=hk y (Array.mem_toList_iff.mp hy)
   simp [DictEntry.refKey,hkey]
  have a':¬ es.toList.any (·.refKey)=true:=by rw [a]; exact YN
  rw [if_neg a']
  exact congrArg some e
theorem oP.look{h:Heap}{x dx C:Addr}{mA:Str→Option Value}(I:oP h x dx C mA):∃ od,PySem.W.InstAt h x (PySem.W.instObj C dx) C (some od)∧∀ name,PySem.W.lookIn name od=some (mA name):=
 let ⟨od,ho,hl⟩:=qE I.ns
 ⟨od,⟨I.obj,rfl,rfl,ho⟩,hl⟩
section
variable{prog:Program}{w:World}{A:Around}{E:Value→Shared→Prop}{s:Shared}{K:WB}{x dx C f:Addr}{mA:Str→Option Value}{name:Str}{v:Value}
theorem wu{expr:Bool}{Q:Value→Shared→Prop}(X:K.In s.heap)(I:oP s.heap x dx C mA)(hg:PySem.W.plainGet K C name=true)(hh:PySem.W.hasDictIn K C=true)
  (ha:PySem.W.findIn K (.ref C) name=some none) (hv:mA name=some v) (hv':PySem.W.handedIn v=true) (h:Q v {s with toks:=s.toks+1}) :
  wpAny (model prog w) A (getAttr (.ref x) name expr) Q E s:=by
 obtain⟨od,J,hl⟩:=I.look
 exact PySem.W.get_value X J (PySem.W.plainGet_of hg).1 (PySem.W.findObj_own hh ha rfl (by rw [hl,hv])) hv' h
theorem uu{pl:Sem Bool}{Q:Value×List Value→Shared→Prop}(X:K.In s.heap)(I:oP s.heap x dx C mA)(hg:PySem.W.plainGet K C name=true)
  (hf:PySem.W.findIn K (.ref C) name=some (some (.ref f))) (ht:PySem.W.isFn K (.ref f)=true) (hv:mA name=none) (h:Q (.ref f,[.ref x]) s) :
  wpAny (model prog w) A (getMethod (.ref x) name pl) Q E s:=by
 obtain⟨od,J,hl⟩:=I.look
 exact PySem.W.method_fn X J (PySem.W.plainGet_of hg).1 (PySem.W.plainGet_of hg).2 hf (beq_iff_eq.mp ht) (by show (PySem.W.lookIn name od).map (·.isSome)=some false; rw [hl,hv]; rfl) h
theorem vf{ns:List Str}{Q:Unit→Shared→Prop}(X:K.In s.heap)(I:oP s.heap x dx C mA)
  (hs:PySem.W.findIn K (.ref C) "__setattr__"=some (some (.builtin "object.__setattr__"))) (hp:PySem.W.plainOver K C=true) (ht:PySem.W.takerIn K C name=some none) (hh:PySem.W.hasDictIn K C=true)
  (hw:PySem.Within mA ns) (hsz:ns.length≤sizeLine)
  (h:∀ h',oP h' x dx C (fun y=>if y=name then some v else mA y)→XI dx s.heap h'→Q () {s with heap:=h',toks:=s.toks+2}) :
  wpAny (model prog w) A (setAttr (.ref x) name v) Q E s:=by
 obtain⟨od,J,hl⟩:=I.look
 refine PySem.W.set_plain X J hs (PySem.W.osa_open (s:={s with toks:=s.toks+1}) (r:=none) X J hp ht fun b=>?_)
 obtain⟨cd,hc,hd'⟩:=PySem.W.any_some hh
 have hx:s.heap.get? x=some ⟨.ref C,some dx,.plain,#[]⟩:=I.obj
 refine Yz (YB (Yz (Yz (wpAny_loadPart hx (Yz (PySem.W.Looks.here (s:={s with toks:=s.toks+1}) (PySem.W.looks_clsIn X hc) ?_))))))
 rw [hd']
 refine YB (a:=some dx) (Yz (YB (Yz ?_)))
 refine wpAny_nsSet1 (s:={s with toks:=s.toks+1}) I.ns fun h' hn2 hs2=>?_
 obtain⟨oD,esD,epD,hoD,hdD,hcD⟩:=hn2.count (PySem.Within.cons name v hw)
 refine Yz (wpAny_lookBehind hoD (by rw [hdD]; exact pastItsLine_dict (YE hcD (by rw [YR]; omega))) ?_)
 exact YB (h _ ⟨(hs2.2 _ (Ne.symm I.ne)).trans I.obj,hn2,I.ne⟩ hs2)
theorem uh{R:Result→Shared→Prop}{vs:List Value}{kw:List (Str×Value)}(X:K.In s.heap)(hm:PySem.W.makesIn K C=true)
  (hi:PySem.W.findIn K (.ref C) "__init__"=some (some (.ref f))) (hf:PySem.W.typeIn K (.ref f)=some (.type "function"))
  (h:codeAny (model prog w) (A.under (.builtin "type.__call__" ⟨.ref C::vs,kw⟩)) (.call (.ref f) ⟨.ref (s.heap.objs.size+1)::vs,kw⟩) (PySem.W.InitBack (s.heap.objs.size+1) R)
   {s with heap:=(s.heap.push PySem.W.emptyDict).push (PySem.W.instObj C s.heap.objs.size)}) :
  codeAny (model prog w) A (.call (.ref C) ⟨vs,kw⟩) R s:=by
 obtain⟨hh,g,d,t,os⟩:=s
 exact PySem.W.make_core (PySem.W.makes_of X hm) (PySem.W.looks_findIn X hi) (fun self=>PySem.W.bind_fn X self hf) (.inl rfl) h
end
def aW(f:Str)(v:V):List (Str×V)→List (Str×V)
 | []=>[(f,v)]
 | (g,x)::r=>if g=f then (g,v)::r else (g,x)::aW f v r
theorem ap(f g:Str)(v:V):∀ fs:List (Str×V),(aW f v fs).lookup g=if g=f then some v else fs.lookup g
 | []=>by
  show List.lookup g [(f,v)]=_
  by_cases h:g=f
  ·have hb:(g==f)=true:=beq_iff_eq.mpr h
   simp only [List.lookup,hb,if_pos h]
  ·have hb:(g==f)=false:=beq_eq_false_iff_ne.mpr h
   simp only [List.lookup,hb,if_neg h]
 | (k,x)::r=>by
  have ih:=ap f g v r
  rw [show aW f v ((k,x)::r)=(if k=f then (k,v)::r else (k,x)::aW f v r) from rfl]
  by_cases hk:k=f
  ·rw [if_pos hk]
   by_cases h:g=k
   ·have hb:(g==k)=true:=beq_iff_eq.mpr h
    simp only [List.lookup,hb,if_pos (h.trans hk)]
   ·have hb:(g==k)=false:=beq_eq_false_iff_ne.mpr h
    simp only [List.lookup,hb,if_neg (fun e:g=f=>h (e.trans hk.symm))]
  ·rw [if_neg hk]
   by_cases h:g=k
   ·have hb:(g==k)=true:=beq_iff_eq.mpr h
    simp only [List.lookup,hb,if_neg (fun e:g=f=>hk (h.symm.trans e))]
   ·have hb:(g==k)=false:=beq_eq_false_iff_ne.mpr h
    simp only [List.lookup,hb]
    exact ih
theorem ie(f:Str)(v:V):∀ fs:List (Str×V),f∈(aW f v fs).map (·.1)∧∀ g,g∈fs.map (·.1)→g∈(aW f v fs).map (·.1)
 | []=>⟨by simp [aW],fun g h=>by simp at h⟩
 | (k,x)::r=>by
  obtain⟨i1,i2⟩:=ie f v r
  rw [show aW f v ((k,x)::r)=(if k=f then (k,v)::r else (k,x)::aW f v r) from rfl]
  by_cases hk:k=f
  ·rw [if_pos hk]
   subst hk
   exact⟨by simp,fun g h=>by simpa using h⟩
  ·rw [if_neg hk]
   refine⟨?_,fun g h=>?_⟩
   ·rw [Y9]
    exact Y0 _ i1
   ·rw [Y9] at h ⊢
    rcases YM.mp h with e | e
    ·exact YM.mpr (.inl e)
    ·exact Y0 _ (i2 g e)
theorem aT(f:Str)(v:V):∀ fs:List (Str×V),(aW f v fs).length≤fs.length+1
 | []=>by simp [aW]
 | (k,x)::r=>by
  have ih:=aT f v r
  rw [show aW f v ((k,x)::r)=(if k=f then (k,v)::r else (k,x)::aW f v r) from rfl]
  by_cases hk:k=f
  ·rw [if_pos hk,YR,YR]; omega
  ·rw [if_neg hk,YR,YR]; omega
theorem eJ.some_of{v:V}{o:Option Value}(r:eJ (some v) o):∃ u,o=some u∧ar v u:=by
 cases o with
 | none=>exact(show False from r).elim
 | some u=>exact⟨u,rfl,r⟩
theorem eJ.none_of{o:Option Value}(r:eJ none o):o=none:=by
 cases o with
 | none=>rfl
 | some u=>exact(show False from r).elim
theorem qL{v:V}{u:Value}(r:ar v u):PySem.W.handedIn u=true:=by
 cases v with
 | non=>cases (show u=Value.none from r); rfl
 | bl b=>cases (show u=Value.bool b from r); rfl
 | int i=>obtain⟨t,e⟩:=(show ∃ t,u=Value.int i t from r); cases e; rfl
 | str x=>obtain⟨t,e⟩:=(show ∃ t,u=Value.str x t from r); cases e; rfl
 | byt b=>obtain⟨t,e⟩:=(show ∃ t,u=Value.bytes b t from r); cases e; rfl
 | flt b=>obtain⟨t,e⟩:=(show ∃ t,u=Value.float b t from r); cases e; rfl
 | ref a=>cases (show u=Value.ref a from r); rfl
 | ty n=>cases (show u=Value.type n from r); rfl
section
variable{P:Program}{w:World}{H H':Hp}{h h':Heap}{a C dx:Addr}{fs fs':List (Str×V)}
theorem gA(hok:HOk P w H h)(e:H a=some (.ins C dx fs)):∃ mA,oP h a dx C mA∧(∀ f,eJ (fs.lookup f) (mA f))∧PySem.Within mA (fs.map (·.1))∧fs.length≤1000∧H dx=some (.own a):=by
 obtain⟨d,z,ne,ob,mA,n,r,q⟩:=(show aM P w H h a (.ins C dx fs) from hok a _ e)
 exact⟨mA,⟨ob,n,ne⟩,r,q,z,d⟩
end
structure Cls(K:WB)(C:Addr):Prop where
 pg:PySem.W.plainGet K C Str.empty=true
 hd:PySem.W.hasDictIn K C=true
 po:PySem.W.plainOver K C=true
 sa:PySem.W.findIn K (.ref C) "__setattr__"=some (some (.builtin "object.__setattr__"))
theorem Cls.get{K:WB}{C:Addr}(c:Cls K C)(f:Str):PySem.W.plainGet K C f=true:=c.pg
def ci(K:WB)(C:Addr)(f:Str):Prop:=PySem.W.findIn K (.ref C) f=some none
theorem ci.taker{K:WB}{C:Addr}{f:Str}(n:ci K C f):PySem.W.takerIn K C f=some none:=by
 unfold PySem.W.takerIn
 rw [show PySem.W.findIn K (.ref C) f=some none from n]
 rfl
structure rc(K:WB)(C:Addr)(m:Str)(f:Addr):Prop where
 at_:PySem.W.findIn K (.ref C) m=some (some (.ref f))
 fn:PySem.W.isFn K (.ref f)=true
 kp:PySem.W.keepIn K (.ref f)=true
section
variable{X:Cx}{pins:List (Addr×Obj)}{σ:St}{H:Hp}{s:Shared}{a C dx:Addr}{fs:List (Str×V)}{f:Str}{v:V}{A:Around}{E:Value→Shared→Prop}
theorem ou{b:Bool}{Q:Value→Shared→Prop}(I:Inv X pins σ H s)(e:H a=some (.ins C dx fs))(c:Cls X.K C)(n:ci X.K C f)(l:fs.lookup f=some v)
  (h:∀ u s',Inv X pins σ H s'→ar v u→Q u s'):wpAny (model X.prog X.w) A (getAttr (.ref a) f b) Q E s:=by
 obtain⟨mA,O,r,_,_,_⟩:=gA I.hok e
 obtain⟨u,hu,ru⟩:=eJ.some_of (v:=v) (o:=mA f) (by rw [← l]; exact r f)
 exact wu I.kIn O (c.get f) c.hd n hu (qL ru) (h u _ (I.tok _) ru)
theorem ot{m:Str}{g:Addr}{pl:Sem Bool}{Q:Value×List Value→Shared→Prop}(I:Inv X pins σ H s)(e:H a=some (.ins C dx fs))(c:Cls X.K C)(k:rc X.K C m g)(l:fs.lookup m=none)
  (h:Q (.ref g,[.ref a]) s):wpAny (model X.prog X.w) A (getMethod (.ref a) m pl) Q E s:=by
 obtain⟨mA,O,r,_,_,_⟩:=gA I.hok e
 have hn:mA m=none:=eJ.none_of (by rw [← l]; exact r m)
 exact uu I.kIn O (c.get m) k.at_ k.fn hn h
theorem nI{y:V}{u:Value}{Q:Unit→Shared→Prop}(I:Inv X pins σ H s)(e:H a=some (.ins C dx fs))(c:Cls X.K C)(n:ci X.K C f)(hl:fs.length<1000)(ry:ar y u)
  (h:∀ s',Inv X pins σ (upd H a (.ins C dx (aW f y fs))) s'→Q () s'):wpAny (model X.prog X.w) A (setAttr (.ref a) f u) Q E s:=by
 obtain⟨mA,O,r,wi,_,ho⟩:=gA I.hok e
 have hz:(fs.map (·.1)).length≤sizeLine:=by rw [YC,sizeLine_eq]; omega
 refine vf I.kIn O c.sa c.po n.taker c.hd wi hz fun h' O' sb=>h _ ?_
 have hd:∃ o,h'.get? dx=some o:=let ⟨o,_,_,e',_⟩:=O'.ns; ⟨o,e'⟩
 refine I.write (x:=a) (e:=dx) (by rw [e]; exact True.intro) (.inr ho) (fun b q hb z=>(sb.2 b hb).trans z) hd ?_
 refine⟨by rw [ae O.ne]; exact ho,?_,O.ne,O'.obj,_,O'.ns,fun g=>?_,fun g hg=>?_⟩
 ·have:=aT f y fs; omega
 ·show eJ ((aW f y fs).lookup g) (if g=f then some u else mA g)
  rw [ap]
  by_cases q:g=f
  ·rw [if_pos q,if_pos q]; exact ry
  ·rw [if_neg q,if_neg q]; exact r g
 ·by_cases q:g=f
  ·rw [q]; exact(ie f y fs).1
  ·refine(ie f y fs).2 g (wi g fun z=>hg ?_)
   show (if g=f then some u else mA g)=none
   rw [if_neg q]; exact z
theorem Inv.made(I:Inv X pins σ H s):Inv X pins σ (upd (upd H s.heap.objs.size (.own (s.heap.objs.size+1))) (s.heap.objs.size+1) (.ins C s.heap.objs.size []))
  {s with heap:=(s.heap.push PySem.W.emptyDict).push (PySem.W.instObj C s.heap.objs.size)}:=by
 have e1:(s.heap.push PySem.W.emptyDict).get? s.heap.objs.size=some PySem.W.emptyDict:=YJ s.heap rfl
 have e2:((s.heap.push PySem.W.emptyDict).push (PySem.W.instObj C s.heap.objs.size)).get? (s.heap.objs.size+1)=some (PySem.W.instObj C s.heap.objs.size):=by
  have:=YJ (s.heap.push PySem.W.emptyDict) (o:=PySem.W.instObj C s.heap.objs.size) rfl
  rwa [XD] at this
 have e3:(s.heap.push PySem.W.emptyDict).Ns s.heap.objs.size (fun _=>none):=⟨PySem.W.emptyDict,#[],_,e1,rfl,(fun e he=>absurd he (by simp)),fun _=>rfl⟩
 have I1:=I.laid (a:=s.heap.objs.size) (o:=.own (s.heap.objs.size+1)) (h':=s.heap.push PySem.W.emptyDict) (t':=s.toks) (fun b u q=>YA _ q) (YD _) ⟨_,e1⟩
 refine I1.laid (a:=s.heap.objs.size+1) (o:=.ins C s.heap.objs.size []) (t':=s.toks) (fun b u q=>YA _ q) (Nat.le_of_eq (XD _ _)) ?_
 have ne:s.heap.objs.size≠s.heap.objs.size+1:=YT (Nat.lt_succ_self _)
 refine⟨by rw [ae ne,aa],YO _,ne,e2,fun _=>none,(Heap.Ns1.of_empty e3).at fun o q=>YA _ q,fun _=>True.intro,fun y hy=>absurd rfl hy⟩
theorem wN{prog:Program}{w:World}{env:Env}{e:Expr}{f:Str}{pos:Pos}{s:Shared}{Q:Value→Shared→Prop}(hb:attributeBase e f env (eval e env)=eval e env)
  (h:wpAny (model prog w) A (eval e env) (fun o s₁=>wpAny (model prog w) A (getAttr o f true) Q E s₁) E s):wpAny (model prog w) A (eval (.Attribute e f pos) env) Q E s:=
 Attribute_any_ h (by rw [arm_eval_Attribute,hb])
end
inductive tFldI(K:WB)(f:Str)(Q:VK)(x:V)(H1:Hp):Prop | mk (a C dx fs v) (_:x=.ref a) (_:H1 a=some (.ins C dx fs)) (_:Cls K C) (_:ci K C f) (_:fs.lookup f=some v) (_:Q v H1)
def zR(K:WB)(ta:TE)(f:Str):TE:=fun σ H Q=>ta σ H (tFldI K f Q)
inductive sFldI(K:WB)(f:Str)(D:gO)(σ:St)(y x:V)(H2:Hp):Prop | mk (a C dx fs) (_:x=.ref a) (_:H2 a=some (.ins C dx fs)) (_:Cls K C) (_:ci K C f) (_:fs.length<1000) (_:D.nx σ (upd H2 a (.ins C dx (aW f y fs))))
def zT(K:WB)(ta tv:TE)(f:Str):TS:=fun D σ H=>tv σ H fun y H1=>ta σ H1 (sFldI K f D σ y)
section
variable{X:Cx}{o e value:Expr}{f:Str}{pos pos' tpos:Pos}{ta tv:TE}
theorem xP(he:PE X e ta)(hb:attributeBase e f X.env (eval e X.env)=eval e X.env):PE X (.Attribute e f pos) (zR X.K ta f):=by
 intro pins s σ H Q I h
 refine wN hb (thn (he pins s σ H _ I h) fun u s1 ⟨x,H1,I1,rx,a,C,dx,fs,v,ex,ea,c,n,l,q⟩=>?_)
 subst ex
 obtain rfl:u=Value.ref a:=rx
 exact ou I1 ea c n l fun u' s2 I2 ru=>⟨v,H1,I2,ru,q⟩
theorem xF(ha:PE X o ta)(hv:PE X value tv)(hs:swapsWith value (some (.Attribute o f pos')) pos.line X.env=pure false):PS X (.Assign [.Attribute o f pos'] value pos) (zT X.K ta tv f):=by
 intro pins s σ H D I h
 refine plainObj_wpAny_Assign_Attribute (thn (hv pins s σ H _ I h) fun u s1 ⟨y,H1,I1,ry,q⟩=>thn (ha pins s1 σ H1 _ I1 q) fun ov s2 ⟨x,H2,I2,rx,a,C,dx,fs,ex,ea,c,n,l,q2⟩=>?_) hs
 subst ex
 obtain rfl:ov=Value.ref a:=rx
 exact nI I2 ea c n l ry fun s3 I3=>⟨σ,_,I3,q2⟩
end
section
variable{X:Cx}{pins:List (Addr×Obj)}{σ:St}{H:Hp}{s:Shared}{A:Around}{E:Value→Shared→Prop}{Q:Value→Shared→Prop}{c:Value}{b:Bool}
inductive eI(K:WB)(H:Hp):V→Value→Prop where
 | non:eI K H .non (.type "NoneType")
 | bl (x:Bool):eI K H (.bl x) (.type "bool")
 | int (i:Int):eI K H (.int i) (.type "int")
 | str (x:Str):eI K H (.str x) (.type "str")
 | flt (x:UInt64):eI K H (.flt x) (.type "float")
 | lst {a:Addr} {xs:List V} (e:H a=some (.lst xs)):eI K H (.ref a) (.type "list")
 | frz {a:Addr} {o:Obj} {xs:List V} (e:H a=some (.frz o (.lst xs))):eI K H (.ref a) (.type "list")
 | tup {a:Addr} {xs:List V} (e:H a=some (.tup xs)):eI K H (.ref a) (.type "tuple")
 | dK {a:Addr} {kvs:List (Key×V)} (e:H a=some (.dK kvs)):eI K H (.ref a) (.type "dict")
 | dT {a:Addr} {kvs:List (List Key×V)} (e:H a=some (.dT kvs)):eI K H (.ref a) (.type "dict")
 | ins {a C dx:Addr} {fs:List (Str×V)} (e:H a=some (.ins C dx fs)) (cl:Cls K C) (ha:PySem.W.findIn K (.ref C) "__class__"=some (some (.builtin "object.__class__")))
   (hn:PySem.W.specialIn K (.builtin "object.__class__") "__get__"=some (some (.builtin "getset_descriptor.__get__"))) (htk:PySem.W.takesIn K (.builtin "object.__class__")=some true)
   (hm:PySem.W.mroIn K C (.type "object")=some true):eI K H (.ref a) (.ref C)
theorem qI{x:V}{u t:Value}(I:Inv X pins σ H s)(rx:ar x u)(ty:eI X.K H x t)(e:PySem.W.kitOne X.K t c=some b)(h:∀ tk,Q (.bool b) {s with toks:=tk}):
  wpAny (model X.prog X.w) A (call (.builtin "isinstance") [u,c]) Q E s:=by
 cases ty with
 | non=>cases (show u=Value.none from rx); exact PySem.W.kia_one PySem.W.kitx_none I.kIn True.intro e (fun z=>nomatch z) h
 | bl y=>cases (show u=Value.bool y from rx); exact PySem.W.kia_one PySem.W.kitx_bool I.kIn True.intro e (fun z=>nomatch z) h
 | int i=>obtain⟨t,q⟩:=(show ∃ t,u=Value.int i t from rx); cases q; exact PySem.W.kia_one PySem.W.kitx_int I.kIn True.intro e (fun z=>nomatch z) h
 | str y=>obtain⟨t,q⟩:=(show ∃ t,u=Value.str y t from rx); cases q; exact PySem.W.kia_one PySem.W.kitx_str I.kIn True.intro e (fun z=>nomatch z) h
 | flt y=>obtain⟨t,q⟩:=(show ∃ t,u=Value.float y t from rx); cases q; exact PySem.W.kia_one PySem.W.kitx_float I.kIn True.intro e (fun z=>nomatch z) h
 | @lst a xs ea=>
  cases (show u=Value.ref a from rx)
  obtain⟨_,_,n,_,h1⟩:=(show aM X.prog X.w H s.heap a (.lst xs) from I.hok a _ ea)
  exact PySem.W.kia_one PySem.W.kitx_list I.kIn ⟨_,h1,rfl⟩ e (fun z=>nomatch z) h
 | @frz a ob xs ea=>
  cases (show u=Value.ref a from rx)
  obtain⟨_,_,_,n,_,h1⟩:=(show aM X.prog X.w H s.heap a (.frz ob (.lst xs)) from I.hok a _ ea)
  exact PySem.W.kia_one PySem.W.kitx_list I.kIn ⟨_,h1,rfl⟩ e (fun z=>nomatch z) h
 | @tup a xs ea=>
  cases (show u=Value.ref a from rx)
  obtain⟨_,_,_,p⟩:=(show aM X.prog X.w H s.heap a (.tup xs) from I.hok a _ ea)
  obtain⟨o,h1,h2,_⟩:=p
  exact PySem.W.kia_one PySem.W.kitx_tuple I.kIn ⟨o,h1,h2⟩ e (fun z=>nomatch z) h
 | @dK a kvs ea=>
  cases (show u=Value.ref a from rx)
  obtain⟨_,_,vs,_,p⟩:=(show aM X.prog X.w H s.heap a (.dK kvs) from I.hok a _ ea)
  obtain⟨o,es,ep,h1,h2,_⟩:=p
  exact PySem.W.kia_one PySem.W.kitx_dict I.kIn ⟨o,h1,h2.1⟩ e (fun z=>nomatch z) h
 | @dT a kvs ea=>
  cases (show u=Value.ref a from rx)
  obtain⟨_,_,xs,_,o,es,ep,h1,h2,_⟩:=(show aM X.prog X.w H s.heap a (.dT kvs) from I.hok a _ ea)
  exact PySem.W.kia_one PySem.W.kitx_dict I.kIn ⟨o,h1,h2.1⟩ e (fun z=>nomatch z) h
 | @ins a C dx fs ea cl ha hn htk hm=>
  cases (show u=Value.ref a from rx)
  obtain⟨mA,O,_⟩:=gA I.hok ea
  obtain⟨od,J,_⟩:=O.look
  exact PySem.W.kia_one (PySem.W.kitx_own (cl.get _) cl.hd ha hn htk hm) I.kIn J e (fun z=>nomatch z) h
end
structure aO(k:Nat)(A:Around):Prop where
 hd:A.handled=none
 gd:A.guards=some []
 dp:A.depth+3*k+5<recursionLimit
 un:A.units+16*k+200<cLine
theorem aO.mono{j k:Nat}{A:Around}(r:aO k A)(h:j≤k):aO j A:=⟨r.hd,r.gd,by have:=r.dp; omega,by have:=r.un; omega⟩
theorem aO.deeper{k:Nat}{A:Around}(r:aO (k+1) A)(env:Env):aO k (A.deeper env):=
 ⟨r.hd,r.gd,by have:=r.dp; show A.depth+1+3*k+5<_; omega,by have:=r.un; show A.units+3+16*k+200<_; omega⟩
theorem oi{A:Around}{C:Addr}{us:List Value}{kw:List (Str×Value)}:(A.under (.builtin "type.__call__" ⟨.ref C::us,kw⟩)).depth=A.depth+1:=by
 first | rfl | simp [Around.under,Code.weight,Code.isCreation,Code.isGuard,Code.isCaller,Code.frames,Code.isFrame,guardIds]
theorem oh{A:Around}{C:Addr}{us:List Value}{kw:List (Str×Value)}:(A.under (.builtin "type.__call__" ⟨.ref C::us,kw⟩)).units=A.units+1:=by
 first | rfl | simp [Around.under,Code.cUnits,Code.frames,Code.isFrame]
theorem my{A:Around}{C:Addr}{us:List Value}{kw:List (Str×Value)}:(A.under (.builtin "type.__call__" ⟨.ref C::us,kw⟩)).guards=A.guards:=by
  first
    | rfl
    | (show pushGuards (Code.guards _) A.guards=A.guards
       have e:Code.guards (.builtin "type.__call__" ⟨.ref C::us,kw⟩)=[]:=by first | rfl | (simp [Code.guards,Code.isGuard,guardIds])
       rw [e,pushGuards_eq]
       cases A.guards <;> simp)
theorem aO.make{k:Nat}{A:Around}(r:aO (k+1) A)(C:Addr)(us:List Value)(kw:List (Str×Value)):aO k (A.under (.builtin "type.__call__" ⟨.ref C::us,kw⟩)):=
 ⟨r.hd,by rw [my]; exact r.gd,by have:=r.dp; rw [oi]; omega,by have:=r.un; rw [oh]; omega⟩
theorem aO.depth{k:Nat}{A:Around}(r:aO k A):A.depth<recursionLimit:=by have:=r.dp; omega
theorem aO.units{k:Nat}{A:Around}(r:aO k A):A.units+64<cLine:=by have:=r.un; omega
theorem aO.units0{k:Nat}{A:Around}(r:aO k A):A.units<cLine:=by have:=r.un; omega
def fS:TA:=fun _ H Q=>Q [] H
def iP(ta:TE)(tr:TA):TA:=fun σ H Q=>ta σ H fun x H1=>tr σ H1 fun xs H2=>Q (x::xs) H2
section
variable{X:Cx}{e:Expr}{es:List Expr}{te:TE}{t:TA}{pos:Pos}
theorem am:PA X [] fS:=fun _ _ _ _ H Q I h=>Calls.spliced_nil ⟨[],H,I,.nil,h⟩
theorem ad(ha:PE X e te)(hr:PA X es t)(hs:starEach (e::es) X.env=(false,eval e X.env)::starEach es X.env:=by rfl):PA X (e::es) (iP te t):=by
 intro pos pins s σ H Q I h
 rw [hs]
 show wpAny _ _ (spliced ((false,eval e X.env)::backTo pos (starEach es X.env))) _ _ s
 refine Calls.spliced_cons (thn (ha pins s σ H _ I h) fun u s1 ⟨x,H1,I1,r1,q1⟩=>?_)
 exact thn (hr pos pins s1 σ H1 _ I1 q1) fun us s2 ⟨xs,H2,I2,r2,q2⟩=>⟨x::xs,H2,I2,.cons r1 r2,q2⟩
def zI(t:TA):TE:=fun σ H Q=>t σ H fun xs H1=>xs.length≤sizeLine∧∀ p,H1 p=none→Q (.ref p) (upd H1 p (.tup xs))
def zO(t:TA):TE:=fun σ H Q=>t σ H fun xs H1=>xs.length≤sizeLine∧∀ p,H1 p=none→Q (.ref p) (upd H1 p (.lst xs))
theorem bq{x1}(h:PA X es t):PE X (.Tuple es x1 pos) (zI t):=by
 intro pins s σ H Q I hq
 refine wpAny_Tuple_spliced (thn (h pos pins s σ H _ I hq) fun us s1 ⟨xs,H1,I1,r,z,q⟩=>⟨by rw [← r.length]; exact z,?_⟩)
 have hf:H1 s1.heap.objs.size=none:=I1.hok.fresh (YD _)
 refine⟨.ref s1.heap.objs.size,upd H1 s1.heap.objs.size (.tup xs),I1.laid (t':=s1.toks) (fun b u e=>YA _ e) (YD _) ?_,rfl,q _ hf⟩
 exact⟨z,us,r,⟨_,YJ _ rfl,rfl,_,rfl⟩⟩
theorem dP(h:PA X es t):PE X (.List es pos) (zO t):=by
 intro pins s σ H Q I hq
 refine wpAny_List_spliced (thn (h pos pins s σ H _ I hq) fun us s1 ⟨xs,H1,I1,r,z,q⟩=>⟨by rw [← r.length]; exact z,?_⟩)
 have hf:H1 s1.heap.objs.size=none:=I1.hok.fresh (YD _)
 refine⟨.ref s1.heap.objs.size,upd H1 s1.heap.objs.size (.lst xs),I1.laid (t':=s1.toks) (fun b u e=>YA _ e) (YD _) ?_,rfl,q _ hf⟩
 exact⟨z,us,0,r,YJ _ rfl⟩
end
abbrev Sp:=List V→Hp→VK→XK→Prop
abbrev CXT:=List Env→Hp→Shared→XK→Value→Shared→Prop
structure lx(P:Program)(w:World)(K:WB)(mg:Str→Option Value)(base:Heap)(A:Around)(outer:List Env)(s:Shared)(H:Hp):Prop where
 frames:A.frames=some outer
 mod:Mod K mg base
 bs:∀ b o,base.get? b=some o→s.heap.get? b=some o∧H b=none
 bsz:base.objs.size≤s.heap.objs.size
 funs:s.heap.FunFrames base outer
 frf:∀ b∈frs outer,H b=none
 hok:HOk P w H s.heap
 bare:AllBare s.gens
def CE(outer:List Env)(P:Program)(w:World)(H:Hp)(s:Shared)(Q:VK)(u:Value)(s':Shared):Prop:=
 ∃ v H',s'.os=s.os∧AllBare s'.gens∧Un (frs outer) [] H H' s.heap s'.heap∧HOk P w H' s'.heap∧ar v u∧Q v H'
def CR(CX:CXT)(outer:List Env)(P:Program)(w:World)(H:Hp)(s:Shared)(Q:VK)(E:XK)(r:Result)(s':Shared):Prop:=
 match r with
 | .ok (.ret u)=>CE outer P w H s Q u s'
 | .ok _=>False
 | .error e=>CX outer H s E e s'
structure cC(P:Program)(w:World)(K:WB)(mg:Str→Option Value)(base:Heap)(CX:CXT)(k:Nat)(f:Addr)(fd:FuncData)(ps:List Str)(sp:Sp):Prop where
 len:∀ vs H Q E,sp vs H Q E→vs.length=ps.length
 run:∀ (A:Around) (outer:List Env) (s:Shared) (H:Hp) (args:Args) (us:List Value) (vs:List V) (Q:VK) (E:XK),aO k A→lx P w K mg base A outer s H→BindsTo s fd args (ps.zip us)→ax vs us→sp vs H Q E→
  codeAny (model P w) A (.call (.ref f) args) (CR CX outer P w H s Q E) s
theorem lx.make{P:Program}{w:World}{K:WB}{mg:Str→Option Value}{base:Heap}{A:Around}{outer:List Env}{s:Shared}{H:Hp}(e:lx P w K mg base A outer s H)(C:Addr)(us:List Value)(kw:List (Str×Value)):
  lx P w K mg base (A.under (.builtin "type.__call__" ⟨.ref C::us,kw⟩)) outer s H:=⟨by first | exact e.frames | (simpa [Around.under,Code.envs,Code.isFrame,pushEnvs] using e.frames),e.mod,e.bs,e.bsz,e.funs,e.frf,e.hok,e.bare⟩
section
variable{X:Cx}{pins:List (Addr×Obj)}{σ:St}{H:Hp}{s s':Shared}
theorem Inv.env0(I:Inv X pins σ H s):lx X.prog X.w X.K X.mg X.base X.A X.stack s H:=
 ⟨I.ok.frames,I.ok.mod,I.bs,YE I.ok.bsz I.sz,I.stack,I.stkFree,I.hok,I.bare⟩
theorem Inv.after{Q:VK}{u:Value}(I:Inv X pins σ H s)(h:CE X.stack X.prog X.w H s Q u s'):EP X pins σ Q u s':=by
 obtain⟨v,H',os,bare,un,hok,r,q⟩:=h
 obtain⟨hh,g,d,t,os'⟩:=s'
 obtain rfl:os'=s.os:=os
 exact⟨v,H',I.call (h':=hh) (g':=g) (d':=d) (t':=t) (ch:=[]) un hok bare (fun b z=>absurd z (by simp)),r,q⟩
end
def iQ(sp:Sp)(dvs:List V)(E:XK)(t:TA):TE:=fun σ H Q=>t σ H fun vs H1=>sp (vs++dvs) H1 Q E
inductive tMethI(C:Addr)(m:Str)(sp:Sp)(dvs:List V)(E:XK)(t:TA)(σ:St)(Q:VK)(x:V)(H1:Hp):Prop | mk (a dx fs) (_:x=.ref a) (_:H1 a=some (.ins C dx fs)) (_:fs.lookup m=none) (_:t σ H1 fun vs H2=>sp (x::(vs++dvs)) H2 Q E)
def yV(C:Addr)(m:Str)(sp:Sp)(dvs:List V)(E:XK)(ta:TE)(t:TA):TE:=fun σ H Q=>ta σ H (tMethI C m sp dvs E t σ Q)
def yW(C:Addr)(sp:Sp)(dvs:List V)(E:XK)(t:TA):TE:=fun σ H Q=>t σ H fun vs H1=>∀ x dx,H1 x=none→H1 dx=none→dx≠x→
 sp (.ref x::(vs++dvs)) (upd (upd H1 dx (.own x)) x (.ins C dx [])) (fun v H2=>v=.non∧Q (.ref x) H2) E
def ce(K:WB)(fd:FuncData)(ps:List Str)(ds:List Value):Prop:=
 ∀ (s:Shared) (us:List Value),K.In s.heap→(us++ds).length=ps.length→BindsTo s fd ⟨us,[]⟩ (ps.zip (us++ds))
theorem ce.all{K:WB}{fd:FuncData}{ps:List Str}(h:∀ us:List Value,us.length=ps.length→bindArgs fd ⟨us,[]⟩=pure (ps.zip us)):ce K fd ps []:=fun s us _ hl=>by
 rw [XT] at hl ⊢
 exact .of_eq (h us hl)
def gi(CX:CXT)(X:Cx)(E:XK):Prop:=∀ (pins:List (Addr×Obj)) (σ:St) (H:Hp) (s:Shared) (e:Value) (s':Shared),Inv X pins σ H s→CX X.stack H s E e s'→X.xe e s'
section
variable{X:Cx}{CX:CXT}{k:Nat}{f C:Addr}{fd:FuncData}{ps:List Str}{sp:Sp}{dvs:List V}{ds:List Value}{E:XK}{x m:Str}{p pos apos:Pos}{e o:Expr}{es:List Expr}{ta:TE}{t:TA}
theorem sj{pins:List (Addr×Obj)}{σ:St}{H:Hp}{s:Shared}{Q:VK}{us:List Value}{vs:List V}(F:cC X.prog X.w X.K X.mg X.base CX k f fd ps sp)(hr:aO k X.A)(hb:ce X.K fd ps ds)(hd:ax dvs ds)(hx:gi CX X E)
  (I:Inv X pins σ H s) (r:ax vs us) (h:sp (vs++dvs) H Q E):wpAny (model X.prog X.w) X.A (call (.ref f) us) (EP X pins σ Q) X.xe s:=by
 have r2:ax (vs++dvs) (us++ds):=r.append hd
 have hl:(us++ds).length=ps.length:=by rw [← r2.length]; exact F.len _ _ _ _ h
 refine wpAny_call (codeAny_mono (F.run X.A X.stack s H ⟨us,[]⟩ (us++ds) (vs++dvs) Q E hr I.env0 (hb s us I.kIn hl) r2 h) fun r s' hq=>?_)
 cases r with
 | error e=>exact hx pins σ H s e s' I hq
 | ok fl=>
  cases fl with
  | ret u=>exact I.after hq
  | next=>exact False.elim hq
  | brk=>exact False.elim hq
  | cont=>exact False.elim hq
theorem pz(F:cC X.prog X.w X.K X.mg X.base CX k f fd ps sp)(hr:aO k X.A)(hg:Gl X x)(hm:X.mg x=some (.ref f))(hk:PySem.W.keepIn X.K (.ref f)=true)(hb:ce X.K fd ps ds)(hd:ax dvs ds)(hx:gi CX X E)
  (ha:PA X (e::es) t) (hdb:(x==("__debug__":Str))=false:=by decide) (he:starEach (e::es) X.env=(false,eval e X.env)::starEach es X.env:=by rfl) (hpl:(backTo pos (starEach es X.env)).any (·.1)=false:=by rfl) :
  PE X (.Call (.Name x p) (e::es) [] pos) (iQ sp dvs E t):=by
 intro pins s σ H Q I h
 refine wpAny_Call_Name_kw (fE I hg hm ?_ hdb)
 refine PySem.W.callWith_K (h₀:=X.base) I.ok.mod.kin hk (thn (ha pos pins s σ H _ I h) fun us s1 ⟨vs,H1,I1,r,q⟩=>⟨I1.kIn,?_⟩) he hpl
 exact sj F hr hb hd hx I1 r q
theorem lQ{pl:Sem Bool}(he:PE X o ta)(c:Cls X.K C)(hm:rc X.K C m f)(F:cC X.prog X.w X.K X.mg X.base CX k f fd ps sp)(hr:aO k X.A)(hb:ce X.K fd ps ds)(hd:ax dvs ds)(hx:gi CX X E)
  (ht:eval (.Call (.Attribute o m apos) [] [] pos) X.env=(do
   let ov ← eval o X.env
   standAt apos.atName
   let (f,first) ← holding [ov] (getMethod ov m pl)
   callWith pos f first (backTo pos (starEach [] X.env)) (backToKw pos (keywordEach [] X.env))):=by rfl) :
  PE X (.Call (.Attribute o m apos) [] [] pos) (yV C m sp dvs E ta fS):=by
 intro pins s σ H Q I h
 refine PySem.W.methodCall_KW (pl:=pl) (thn (he pins s σ H _ I h) fun u s1 ⟨x,H1,I1,rx,a,dx,fs,ex,ea,l,q⟩=>?_) ht
 subst ex
 obtain rfl:u=Value.ref a:=rx
 refine ot I1 ea c hm l ?_
 exact PySem.W.callWith_K0 (first:=[.ref a]) I1.kIn hm.kp (sj (us:=[.ref a]) (vs:=[.ref a]) F hr hb hd hx I1 (.cons rfl .nil) q)
structure Mk(K:WB)(C f:Addr):Prop where
 makes:PySem.W.makesIn K C=true
 init:PySem.W.findIn K (.ref C) "__init__"=some (some (.ref f))
 fn:PySem.W.isFn K (.ref f)=true
 kp:PySem.W.keepIn K (.ref C)=true
theorem si{pins:List (Addr×Obj)}{σ:St}{H:Hp}{s:Shared}{Q:VK}{us:List Value}{vs:List V}(M:Mk X.K C f)(F:cC X.prog X.w X.K X.mg X.base CX k f fd ps sp)(hr:aO (k+1) X.A)(hb:ce X.K fd ps ds)(hd:ax dvs ds)
  (hx:gi CX X E) (I:Inv X pins σ H s) (r:ax vs us)
  (h:∀ x dx,H x=none→H dx=none→dx≠x→sp (.ref x::(vs++dvs)) (upd (upd H dx (.own x)) x (.ins C dx [])) (fun v H2=>v=.non∧Q (.ref x) H2) E) :
  wpAny (model X.prog X.w) X.A (call (.ref C) us) (EP X pins σ Q) X.xe s:=by
 have hq:=h (s.heap.objs.size+1) s.heap.objs.size (I.hok.fresh (Nat.le_succ _)) (I.hok.fresh (YD _)) (YT (Nat.lt_succ_self _))
 have I2:=Inv.made (C:=C) I
 have r2:ax (V.ref (s.heap.objs.size+1)::(vs++dvs)) (Value.ref (s.heap.objs.size+1)::(us++ds)):=.cons rfl (r.append hd)
 have hl:(Value.ref (s.heap.objs.size+1)::us++ds).length=ps.length:=by
  have e:=r2.length
  rw [F.len _ _ _ _ hq] at e
  exact e.symm
 refine wpAny_call (uh (f:=f) I.kIn M.makes M.init (beq_iff_eq.mp M.fn) (codeAny_mono (F.run _ X.stack _ _ ⟨Value.ref (s.heap.objs.size+1)::us,[]⟩ (Value.ref (s.heap.objs.size+1)::(us++ds)) _ _ E (hr.make C us [])
  (I2.env0.make C us []) (hb _ (Value.ref (s.heap.objs.size+1)::us) I2.kIn hl) r2 hq) fun r s' hq'=>?_))
 cases r with
 | error e=>exact hx pins σ _ _ e s' I2 hq'
 | ok fl=>
  cases fl with
  | ret u=>
   obtain⟨v,H',I3,rv,ev,q3⟩:=I2.after hq'
   subst ev
   exact⟨rv,⟨V.ref (s.heap.objs.size+1),H',I3,rfl,q3⟩⟩
  | next=>exact False.elim hq'
  | brk=>exact False.elim hq'
  | cont=>exact False.elim hq'
theorem kL(M:Mk X.K C f)(F:cC X.prog X.w X.K X.mg X.base CX k f fd ps sp)(hr:aO (k+1) X.A)(hg:Gl X x)(hm:X.mg x=some (.ref C))(hb:ce X.K fd ps ds)(hd:ax dvs ds)(hx:gi CX X E)
  (ha:PA X (e::es) t) (hdb:(x==("__debug__":Str))=false:=by decide) (he:starEach (e::es) X.env=(false,eval e X.env)::starEach es X.env:=by rfl) (hpl:(backTo pos (starEach es X.env)).any (·.1)=false:=by rfl) :
  PE X (.Call (.Name x p) (e::es) [] pos) (yW C sp dvs E t):=by
 intro pins s σ H Q I h
 refine wpAny_Call_Name_kw (fE I hg hm ?_ hdb)
 refine PySem.W.callWith_K (h₀:=X.base) I.ok.mod.kin M.kp (thn (ha pos pins s σ H _ I h) fun us s1 ⟨vs,H1,I1,r,q⟩=>⟨I1.kIn,?_⟩) he hpl
 exact si M F hr hb hd hx I1 r q
end
section
variable{X:Cx}{CX:CXT}{k:Nat}{f C:Addr}{fd:FuncData}{ps ks:List Str}{sp:Sp}{E:XK}{x m:Str}{p pos apos kpos:Pos}{e o:Expr}{es:List Expr}{kws:List Keyword}{te ta:TE}{t tk:TA}{nm:Option Str}
variable{g:List Value→List Value→List Value}{gV:List V→List V→List V}
end
structure ai(N P:List Str)(sc:Scope):Prop where
 kind:sc.kind=.function
 co:sc.isCoroutine=false
 gen:sc.isGenerator=false
 nd:N.Nodup
 pre:N.take P.length=P
 par:∀ x∈P,sc.names.lookup x=some .local∨sc.names.lookup x=some .cell
 nofree:∀ y∈sc.names,y.2≠.free
theorem j6{kindOf:Str→Option NameKind}{x:Str}:∀ {binds:List (Str×Value)} {m:Str→Option Value},(∀ v,(x,v)∉binds)→bindL kindOf binds m x=m x
 | [],_,_=>rfl
 | (n,v)::r,m,h=>by
  unfold bindL
  rw [j6 fun w hw=>h w (Y0 _ hw)]
  split
  ·have : x≠n:=by rintro rfl; exact h v YX
   simp [this]
  ·rfl
theorem j7{kindOf:Str→Option NameKind}{x:Str}:∀ {binds:List (Str×Value)} {m:Str→Option Value},(∀ v,(x,v)∉binds)→bindC kindOf binds m x=m x
 | [],_,_=>rfl
 | (n,v)::r,m,h=>by
  unfold bindC
  rw [j7 fun w hw=>h w (Y0 _ hw)]
  split
  ·rfl
  ·have : x≠n:=by rintro rfl; exact h v YX
   simp [this]
theorem ii{kindOf:Str→Option NameKind}{x:Str}{v:Value}:∀ {P:List Str} {vs:List Value} {i:Nat} {m:Str→Option Value},P.Nodup→P[i]? = some x→vs[i]? = some v→kindOf x=some .local→
  bindL kindOf (P.zip vs) m x=some v
 | [],_,_,_,_,h,_,_=>by simp at h
 | _::_,[],_,_,_,_,h,_=>by simp at h
 | p::P,w::vs,0,m,nd,h1,h2,hk=>by
  simp at h1 h2; subst h1; subst h2
  show bindL kindOf ((p,w)::P.zip vs) m p=_
  unfold bindL
  rw [j6 fun v hv=>(WA.mp nd).1 (List.of_mem_zip hv).1,if_pos hk]
  simp
 | p::P,w::vs,i+1,m,nd,h1,h2,hk=>by
  show bindL kindOf ((p,w)::P.zip vs) m x=_
  unfold bindL
  exact ii (i:=i) (WA.mp nd).2 (by simpa using h1) (by simpa using h2) hk
theorem ij{kindOf:Str→Option NameKind}{x:Str}{v:Value}:∀ {P:List Str} {vs:List Value} {i:Nat} {m:Str→Option Value},P.Nodup→P[i]? = some x→vs[i]? = some v→kindOf x≠some .local→
  bindC kindOf (P.zip vs) m x=some v
 | [],_,_,_,_,h,_,_=>by simp at h
 | _::_,[],_,_,_,_,h,_=>by simp at h
 | p::P,w::vs,0,m,nd,h1,h2,hk=>by
  simp at h1 h2; subst h1; subst h2
  show bindC kindOf ((p,w)::P.zip vs) m p=_
  unfold bindC
  rw [j7 fun v hv=>(WA.mp nd).1 (List.of_mem_zip hv).1,if_neg hk]
  simp
 | p::P,w::vs,i+1,m,nd,h1,h2,hk=>by
  show bindC kindOf ((p,w)::P.zip vs) m x=_
  unfold bindC
  exact ij (i:=i) (WA.mp nd).2 (by simpa using h1) (by simpa using h2) hk
def cq(N:List Str)(vs:List V):St:=vs.map some++List.replicate (N.length-vs.length) none
def jx(CX:CXT)(P:Program)(w:World)(K:WB)(mg:Str→Option Value)(base:Heap)(N:List Str)(qual:Str)(scope:Scope)(f:Addr)(cd:Value)(A:Around)(outer:List Env)(s:Shared)(H:Hp)(E:XK):Cx where
 prog:=P
 w:=w
 K:=K
 mg:=mg
 base:=base
 A:=A.deeper (envOfC qual scope s.heap.objs.size f cd)
 N:=N
 s₀:=s
 H₀:=H
 env:=envOfC qual scope s.heap.objs.size f cd
 outer:=outer
 stack:=envOfC qual scope s.heap.objs.size f cd::outer
 ex:=[]
 calm:=true
 fn:=fun _=>true
 pn:=[]
 xe:=fun e s'=>wpAny (model P w) (A.deeper (envOfC qual scope s.heap.objs.size f cd)) (leaving (envOfC qual scope s.heap.objs.size f cd) e) (fun _ s''=>CX outer H s E e s'') (fun e' s''=>CX outer H s E e' s'') s'
theorem gF{sc:Scope}{n:Nat}{x:Str}(h:sc.names.lookup x=some .cell):∃ c,(cellsFrom n sc.names []).lookup x=some c:=by
 have q:=PySem.W.cellsFrom_some sc.names n [] (.inl h)
 exact Option.isSome_iff_exists.mp q
theorem qJ{CX:CXT}{P:Program}{w:World}{K:WB}{mg:Str→Option Value}{base:Heap}{N ps:List Str}{qual:Str}{scope:Scope}{f:Addr}{cd:Value}{A:Around}{outer:List Env}{s s1:Shared}{H:Hp}{E:XK}{us:List Value}{vs:List V}
  (S:ai N ps scope) (hd:A.handled=none) (e0:lx P w K mg base A outer s H) (hl:vs.length=ps.length) (r:ax vs us)
  (x:InCallC s s.heap.objs.size (bindL (envOfC qual scope s.heap.objs.size f cd).kindOf (ps.zip us) fun _=>none) (cellsFrom (s.heap.objs.size+1) scope.names []) (bindC (envOfC qual scope s.heap.objs.size f cd).kindOf (ps.zip us) fun _=>none) s1) :
  Inv (jx CX P w K mg base N qual scope f cd A outer s H E) [] (cq N vs) H s1:=by
 have hpl:ps.length≤N.length:=by have:=congrArg List.length S.pre; rw [XX] at this; omega
 obtain⟨h1,tk,rfl,hk⟩:=x.done
 have noA:∀ b:Addr,b∉(jx CX P w K mg base N qual scope f cd A outer s H E).ex:=fun b z=>absurd (show b∈([]:List Addr) from z) (by simp)
 refine⟨⟨e0.mod,S.kind,rfl,rfl,YD _,fun y z c h1 h2=>?_,fun y hy=>?_,fun y c _ h=>?_,fun _=>hd,Around.frames_deeper e0.frames,.inr ⟨rfl,rfl⟩,fun b z=>absurd z (noA b),e0.bs,e0.bsz,fun b _ _=>noA b,fun b z=>absurd z (noA b),e0.funs,e0.frf⟩,
  rfl,e0.bare,Un.kept hk,⟨_,x.toInCall.ns,fun i y v h1 h2 h3=>?_⟩,fun y c h=>⟨_,x.cell y c h⟩,e0.hok.fresh (YD _),fun y c h=>?_,fun p hp=>absurd (show p∈([]:List (Addr×Obj)) from hp) (by simp),e0.hok.kept hk,?_⟩
 ·exact name_of_addr x.apart (PySem.mem_of_lookup h1) (PySem.mem_of_lookup h2)
 ·have hy:scope.names.lookup y=some .cell∨scope.names.lookup y=some .free:=hy
  rcases hy with hy | hy
  ·exact gF hy
  ·exact absurd rfl (S.nofree _ (PySem.mem_of_lookup hy))
 ·exact Nat.le_of_lt (x.above y c (PySem.mem_of_lookup h))
 ·have hi:i<vs.length:=by
   unfold cq at h2
   by_cases hi:i<vs.length
   ·exact hi
   ·rw [X0 (by simpa using hi)] at h2
    rw [List.getElem?_replicate] at h2
    split at h2 <;> cases h2
  have ha:vs[i]? = some v:=by
   unfold cq at h2
   rw [X5 (by simpa using hi),YZ] at h2
   cases e:vs[i]? with
   | none=>rw [e] at h2; cases h2
   | some a=>rw [e] at h2; cases h2; rfl
  obtain⟨u,hu,rv⟩:=r.get ha
  have hp:ps[i]? = some y:=by
   rw [← S.pre,List.getElem?_take_of_lt (by omega)]; exact h1
  have ndP:ps.Nodup:=by rw [← S.pre]; exact S.nd.sublist (List.take_sublist _ _)
  refine⟨u,rv,?_⟩
  rcases S.par y (YU hp) with k | k
  ·exact .inl ⟨k,ii ndP hp hu k⟩
  ·obtain⟨c,e⟩:=gF (n:=s.heap.objs.size+1) k
   refine .inr ⟨.inl k,c,e,?_⟩
   have q:=x.cell y c e
   rw [ij ndP hp hu (by show scope.names.lookup y≠_; rw [k]; decide)] at q
   exact q
 ·exact e0.hok.fresh (Nat.le_of_lt (x.above y c (PySem.mem_of_lookup h)))
 ·unfold cq
  show _=N.length
  rw [YY,YC,XO]
  omega
theorem xf{CX:CXT}{P:Program}{w:World}{K:WB}{mg:Str→Option Value}{base:Heap}{k:Nat}{f:Addr}{name qual:Str}{params:Arguments}{body:List Stmt}{scope:Scope}{dV kV doc pm cdv ct oc:Value}{an od:Option Addr}
  {osl:Array (Option Value)} {N ps:List Str} {sp:Sp} (lk:K.lookup f=some ⟨oc,od,.func (PySem.W.fnOf name qual params body scope dV kV doc pm an cdv ct),osl⟩) (hcd:PySem.W.codeIn K cdv qual=true) (S:ai N ps scope)
  (len:∀ vs H Q E,sp vs H Q E→vs.length=ps.length)
  (hbody:∀ (A:Around) (outer:List Env) (s:Shared) (H:Hp) (vs:List V) (Q:VK) (E:XK),aO k (A.deeper (envOfC qual scope s.heap.objs.size f cdv))→sp vs H Q E→
   ∃ t,PSs (jx CX P w K mg base N qual scope f cdv A outer s H E) body t∧t {nx:=fun _ H'=>Q .non H',rt:=Q} (cq N vs) H) :
  cC P w K mg base CX (k+1) f (PySem.W.fnOf name qual params body scope dV kV doc pm an cdv ct) ps sp:=by
 refine⟨len,fun A outer s H args us vs Q E hr e0 hb r hsp=>?_⟩
 have hl:=len _ _ _ _ hsp
 have KX:K.In s.heap:=e0.mod.kin.keeps fun b o e=>(e0.bs b o e).1
 have lim:s.heap.NoLimit:=e0.mod.nolimit.keeps fun b o e=>(e0.bs b o e).1
 have hkind:∀ y∈ps.zip us,scope.names.lookup y.1=some .local∨(scope.names.lookup y.1=some .cell∧((cellsFrom (s.heap.objs.size+1) scope.names []).lookup y.1).isSome=true):=fun ⟨n,v⟩ hy=>by
  rcases S.par n (List.of_mem_zip hy).1 with q | q
  ·exact .inl q
  ·exact .inr ⟨q,PySem.W.cellsFrom_some _ _ _ (.inl q)⟩
 refine codeAny_call_function hr.depth (KX _ _ lk) rfl S.co S.gen rfl (PySem.W.codeRec_of KX hcd) (hb _ _ _ _ ?_)
 refine wpAny_newFunctionEnv_cells S.kind hkind fun env he s1 x=>?_
 subst he
 refine⟨lim.keeps x.toInCall.keep,codeAny_func ?_⟩
 obtain⟨t,ht,hq⟩:=hbody A outer s H vs Q E (hr.deeper _) hsp
 have I:Inv (jx CX P w K mg base N qual scope f cdv A outer s H E) [] (cq N vs) H s1:=qJ S hr.hd e0 hl r x
 refine YH (ht [] s1 (cq N vs) H _ I hq) (fun fl s' hs=>?_) fun e s' hs=>hs
 have fin:∀ {σ':St} {H':Hp} {v:V} {u:Value},Inv (jx CX P w K mg base N qual scope f cdv A outer s H E) [] σ' H' s'→ar v u→Q v H'→CE outer P w H s Q u s':=
  fun {σ' H' v u} J rv q=>⟨v,H',J.os,J.bare,J.base,J.hok,rv,q⟩
 cases fl with
 | ret u=>
  obtain⟨v,σ',H',J,rv,q⟩:=hs
  exact fin J rv q
 | next=>
  obtain⟨σ',H',J,q⟩:=hs
  exact fin (v:=V.non) (u:=Value.none) J rfl q
 | brk=>
  obtain⟨_,_,_,q⟩:=hs
  exact False.elim q
 | cont=>
  obtain⟨_,_,_,q⟩:=hs
  exact False.elim q
section
variable{X:Cx}{x:Str}{p pos:Pos}{e:Expr}{es:List Expr}{t:TA}{id T:String}{r:List V→Hp→VK→Prop}
def tCB(r:List V→Hp→VK→Prop)(t:TA):TE:=fun σ H Q=>t σ H fun vs H1=>r vs H1 Q
theorem aJ(hc:bZ X (.builtin id) r)(hg:Gl X x)(hm:X.mg x=none)(hv:bootBuiltins x=some (.builtin id))(ha:PA X (e::es) t)(hn:x≠"__name__":=by decide)(hdb:(x==("__debug__":Str))=false:=by decide)
  (he:starEach (e::es) X.env=(false,eval e X.env)::starEach es X.env:=by rfl) (hpl:(backTo pos (starEach es X.env)).any (·.1)=false:=by rfl):PE X (.Call (.Name x p) (e::es) [] pos) (tCB r t):=by
 intro pins s σ H Q I h
 refine wpAny_Call_Name_kw (je I hg hm hv ?_ hn hdb)
 exact PyProof.Rows.callWith_builtin1 (thn (ha pos pins s σ H _ I h) fun us s1 ⟨vs,H1,I1,r1,q1⟩=>hc pins s1 σ H1 vs us Q I1 r1 q1) he hpl
theorem jI(hc:bZ X (.type T) r)(hg:Gl X x)(hm:X.mg x=none)(hv:bootBuiltins x=some (.type T))(ha:PA X (e::es) t)(hn:x≠"__name__":=by decide)(hdb:(x==("__debug__":Str))=false:=by decide)
  (he:starEach (e::es) X.env=(false,eval e X.env)::starEach es X.env:=by rfl) (hpl:(backTo pos (starEach es X.env)).any (·.1)=false:=by rfl):PE X (.Call (.Name x p) (e::es) [] pos) (tCB r t):=by
 intro pins s σ H Q I h
 refine wpAny_Call_Name_kw (je I hg hm hv ?_ hn hdb)
 exact PyProof.Rows.callWith_type1 (thn (ha pos pins s σ H _ I h) fun us s1 ⟨vs,H1,I1,r1,q1⟩=>hc pins s1 σ H1 vs us Q I1 r1 q1) he hpl
end
end L2
namespace HT
open PySem PyProof.Rows
section
open PySem.SeqAt
open PySem.AutoSeq1 (wpAny_loadPart')
open PySem.MeetsSeq PySem.MeetsSeq2 PySem.MeetsSeq3
end
section
variable{prog:Program}{w:World}{A:Around}{E:Value→Shared→Prop}{s:Shared}
theorem cat_tup{t b:Addr}{vs ws:List Value}{Q:Value→Shared→Prop}(ht:IsTup s.heap t vs.toArray)(hb:IsTup s.heap b ws.toArray)(hv:vs≠[])
  (h1:ws=[]→Q (.ref t) s) (h2:ws≠[]→Q (.ref s.heap.objs.size) {s with heap:=s.heap.push {cls:=.type "tuple",data:=.seq (vs++ws).toArray}})
  (hsz:vs.length+ws.length≤sizeLine):wpAny (model prog w) A (binaryOp .Add (.ref t) (.ref b)) Q E s:=by
 obtain⟨⟨cls,dd,data,sl⟩,ho,hc,n,hd⟩:=id ht
 obtain⟨⟨cls2,dd2,data2,sl2⟩,ho2,hc2,n2,hd2⟩:=id hb
 simp only at hc hd hc2 hd2
 subst hc hd hc2 hd2
 have e:vs.toArray++ws.toArray=(vs++ws).toArray:=by simp
 by_cases hw:ws=[]
 ·exact concat_meets ⟨_,ho,rfl⟩ ⟨_,ho2,rfl⟩ noFill_tuple_add seq_tuple_add PySem.F.slot_tuple_add PySem.F.entry_tuple_add (PySem.F.args_tuple_add_2 _ _)
   (tuple_addW1 t b vs.toArray ws.toArray n n2 dd dd2 sl sl2 (by simpa using hv) (by simp [hw])) ⟨ho,ho2,h1 hw⟩
 ·refine concat_meets ⟨_,ho,rfl⟩ ⟨_,ho2,rfl⟩ noFill_tuple_add seq_tuple_add PySem.F.slot_tuple_add PySem.F.entry_tuple_add (PySem.F.args_tuple_add_2 _ _)
   (tuple_addW2 t b vs.toArray ws.toArray n n2 dd dd2 sl sl2 (by simpa using hv) (by simpa using hw) (by rw [YL,YL]; exact hsz)) ⟨ho,ho2,?_⟩
  rw [e]
  exact h2 hw
def sIx(n d:Nat):Option Int→Nat
 | none=>d
 | some v=>if v<0 then (v+(n:Int)).toNat else min v.toNat n
theorem xw(n d:Nat)(hd:d≤n)(o:Option Int):sIx n d o≤n:=by
 cases o with
 | none=>exact hd
 | some v=>
  show (if v<0 then (v+(n:Int)).toNat else min v.toNat n)≤n
  by_cases hv:v<0
  ·rw [if_pos hv]; omega
  ·rw [if_neg hv]; exact Nat.min_le_right _ _
theorem pO(v:Int)(n d:Nat):(if v<0 then max (v+(n:Int)) 0 else min v (n:Int))=((sIx n d (some v):Nat):Int):=by
 show (if v<0 then max (v+(n:Int)) 0 else min v (n:Int))=(((if v<0 then (v+(n:Int)).toNat else min v.toNat n):Nat):Int)
 by_cases hv:v<0
 ·simp only [if_pos hv]; omega
 ·simp only [if_neg hv]; omega
theorem oO(lo hi:Option Int)(n:Nat):Builtin.Slice.sliceAdjust lo hi 1 (n:Int)=(((sIx n 0 lo:Nat):Int),((sIx n n hi:Nat):Int)):=by
 have h1:¬ ((1:Int)<0):=by omega
 unfold Builtin.Slice.sliceAdjust
 simp only [h1,if_false]
 refine Prod.ext ?_ ?_
 ·cases lo with
  | none=>rfl
  | some v=>exact pO v n 0
 ·cases hi with
  | none=>rfl
  | some v=>exact pO v n n
theorem nR(i j:Nat):Builtin.Slice.slicePlaces (i:Int) (j:Int) 1=j-i:=by
 unfold Builtin.Slice.slicePlaces
 have h1:(1:Int) > 0:=by omega
 simp only [h1,if_true,Int.ediv_one]
 split <;> omega
theorem iW{v:Value}{o:Option Int}{Q:Option Int→Shared→Prop}(p:IsPart v o)(h:Q o s):wpAny (model prog w) A (Builtin.Slice.slicePartIndex v) Q E s:=by
 cases p with
 | none=>exact slicePart_none h
 | int i t=>exact slicePart_int h
theorem dU{sl:Addr}{vl vu:Value}{lo hi:Option Int}{n:Nat}{Q:Int×Int×Nat→Shared→Prop}(hs:s.heap.IsSliceOf sl vl vu .none)(pl:IsPart vl lo)(pu:IsPart vu hi)
  (h:Q (((sIx n 0 lo:Nat):Int),1,sIx n n hi-sIx n 0 lo) s):wpAny (model prog w) A (Builtin.Slice.sliceApplied (.ref sl) (pure (n:Int))) Q E s:=by
 obtain⟨os,hos,hcs,hds⟩:=id hs
 unfold Builtin.Slice.sliceApplied Builtin.Slice.sliceFields
 refine Yz (Yz (wpAny_field hos hds (x:=vl) rfl (Yz (wpAny_field hos hds (x:=vu) rfl (Yz (wpAny_field hos hds (x:=.none) rfl (YB ?_)))))))
 refine Yz (slicePart_none ?_)
 show wpAny _ _ (if ((1:Int)==0)=true then _ else _) _ _ s
 rw [if_neg (by decide)]
 refine Yz (iW pl (Yz (iW pu (Yz (YB ?_)))))
 show wpAny _ _ (match Builtin.Slice.sliceAdjust lo hi 1 (n:Int) with | (lo,hi)=>pure (lo,(1:Int),Builtin.Slice.slicePlaces lo hi 1)) _ _ s
 rw [oO lo hi n]
 show wpAny _ _ (pure (((sIx n 0 lo:Nat):Int),(1:Int),Builtin.Slice.slicePlaces ((sIx n 0 lo:Nat):Int) ((sIx n n hi:Nat):Int) 1)) _ _ s
 rw [nR]
 exact YB h
theorem sA(xs:Array Value)(i k:Nat):((List.range k).filterMap fun (m:Nat)=>xs[((i:Int)+(m:Int)*1).toNat]?).toArray=((xs.toList.drop i).take k).toArray:=by
 have e:(fun (m:Nat)=>xs[((i:Int)+(m:Int)*1).toNat]?)=fun m=>xs[i+m]?:=by
  funext m
  have : ((i:Int)+(m:Int)*1).toNat=i+m:=by omega
  rw [this]
 rw [e]
 have:=pick_run xs i k
 rw [List.filterMap_map] at this
 have e2:((fun x=>xs[x]?)∘fun x=>i+x)=fun m=>xs[i+m]?:=rfl
 rw [e2] at this
 rw [this]
theorem getItem_tuple_cut{t sl:Addr}{items:Array Value}{vl vu:Value}{lo hi:Option Int}{Q:Value→Shared→Prop}(ht:IsTup s.heap t items)(hs:s.heap.IsSliceOf sl vl vu .none)(pl:IsPart vl lo)(pu:IsPart vu hi)
  (hw:¬ (sIx items.size 0 lo=0∧sIx items.size items.size hi=items.size))
  (h:Q (.ref s.heap.objs.size) {s with heap:=s.heap.push {cls:=.type "tuple",data:=.seq ((items.toList.drop (sIx items.size 0 lo)).take (sIx items.size items.size hi-sIx items.size 0 lo)).toArray}})
  (hsz:items.size≤sizeLine):wpAny (model prog w) A (getItem (.ref t) (.ref sl)) Q E s:=by
 have htake:sizeOk (.seq ((items.toList.drop (sIx items.size 0 lo)).take (sIx items.size items.size hi-sIx items.size 0 lo)).toArray):=by
  show ((items.toList.drop (sIx items.size 0 lo)).take (sIx items.size items.size hi-sIx items.size 0 lo)).toArray.size≤sizeLine
  rw [YL,XX,List.length_drop,XV]
  omega
 have hj:sIx items.size items.size hi≤items.size:=xw _ _ (YD _) hi
 obtain⟨os,hos,hcs,hds⟩:=id hs
 have hTs:s.TypeIs (.ref sl) "slice":=⟨os,hos,hcs⟩
 unfold getItem
 try with_reducible refine wpAny_holding ?_
 first | refine Yz (YB ?_) | skip
 refine Yz (wpAny_sequenceKey ht.typeIs (by decide) ?_)
 refine Yz (wpAny_callSpecial?_slot (name:=Str.ofString "__getitem__") ht.typeIs PyProof.Rows.slot_tuple_getitem
  (wpAny_call_entry PyProof.Rows.slot_tuple_getitem ht.typeIs entry_tuple_getitem ?_ (args_tuple_getitem _ _)))
 show wpAny _ _ (Builtin.Tuple.tupleItemsOf (.ref t)>>=_) _ _ s
 refine Yz (tupleItemsOf_ ht ?_)
 refine Yz (wpAny_typeOf hTs ?_)
 rw [if_pos (by decide)]
 refine Yz (dU hs pl pu ?_)
 have hno:¬ ((((sIx items.size 0 lo:Nat):Int)==0&&(1:Int)==1&&(sIx items.size items.size hi-sIx items.size 0 lo)==items.size)=true):=by
  intro q
  rw [YW,YW] at q
  have q1:((sIx items.size 0 lo:Nat):Int)=0:=eq_of_beq q.1.1
  have q2:sIx items.size items.size hi-sIx items.size 0 lo=items.size:=eq_of_beq q.2
  exact hw ⟨by omega,by omega⟩
 show wpAny _ _ (if (((sIx items.size 0 lo:Nat):Int)==0&&(1:Int)==1&&(sIx items.size items.size hi-sIx items.size 0 lo)==items.size)=true then _ else _) _ _ s
 rw [if_neg hno,sA]
 first
  | exact Yz (m:=Builtin.Tuple.tupleExact _) (wpAny_newObj_type (YB ⟨_,rfl,YB h⟩) htake)
  | exact Yz (m:=Builtin.Tuple.tupleExact _) (wpAny_newObj_type (Yz (YB (YB ⟨_,rfl,YB h⟩))) htake)
  | exact Yz (Yz (m:=Builtin.Tuple.tupleExact _) (wpAny_newObj_type (YB (YB ⟨_,rfl,YB h⟩)) htake))
  | exact Yz (Yz (m:=Builtin.Tuple.tupleExact _) (wpAny_newObj_type (YB ⟨_,rfl,YB h⟩) htake))
end
end HT
namespace L2
open PySem PySem.Spec PyProof.Rows
abbrev TO:=St→Hp→(Option Int→Hp→Prop)→Prop
def PO(X:Cx)(e:Option Expr)(t:TO):Prop:=
 ∀ (pins:List (Addr×Obj)) (s:Shared) (σ:St) (H:Hp) (Q:Option Int→Hp→Prop),Inv X pins σ H s→t σ H Q→
  wpAny (model X.prog X.w) X.A (evalPart e X.env) (fun u s'=>∃ o H',Inv X pins σ H' s'∧IsPart u o∧Q o H') X.xe s
def oY:TO:=fun _ H Q=>Q none H
inductive tPartI(Q:Option Int→Hp→Prop)(x:V)(H1:Hp):Prop | mk (i) (_:x=.int i) (_:Q (some i) H1)
def wV(t:TE):TO:=fun σ H Q=>t σ H (tPartI Q)
section
variable{X:Cx}{e:Expr}{te:TE}{lo hi:Option Expr}{tl th:TO}{pos p2:Pos}
theorem vy:PO X none oY:=by
 intro pins s σ H Q I h
 rw [evalPart_none]
 exact YB ⟨none,H,I,.none,h⟩
theorem kK(h:PE X e te):PO X (some e) (wV te):=by
 intro pins s σ H Q I hw
 rw [evalPart_some]
 refine thn (h pins s σ H _ I hw) fun u s1 ⟨x,H1,I1,r1,q1⟩=>?_
 obtain⟨i,rfl,q⟩:=q1
 obtain⟨t,rfl⟩:=r1
 exact⟨some i,H1,I1,.int i t,q⟩
def SlR(X:Cx)(r:V→Option Int→Option Int→Hp→VK→Prop):Prop:=
 ∀ (pins:List (Addr×Obj)) (s:Shared) (σ:St) (H:Hp) (x:V) (v vl vu:Value) (lo hi:Option Int) (sl:Addr) (Q:VK),Inv X pins σ H s→ar x v→s.heap.IsSliceOf sl vl vu .none→IsPart vl lo→IsPart vu hi→r x lo hi H Q→
  ∃ T id,typeLookup (.type T) "__getitem__"=pure (some (.builtin id))∧s.TypeIs v T∧wpAny (model X.prog X.w) X.A (getItem v (.ref sl)) (EP X pins σ Q) X.xe s
theorem SlR.or{r r':V→Option Int→Option Int→Hp→VK→Prop}(h:SlR X r)(h':SlR X r'):SlR X (fun x lo hi H Q=>r x lo hi H Q∨r' x lo hi H Q):=by
 intro pins s σ H x v vl vu lo hi sl Q I rx hs pl pu q
 rcases q with q | q
 ·exact h pins s σ H x v vl vu lo hi sl Q I rx hs pl pu q
 ·exact h' pins s σ H x v vl vu lo hi sl Q I rx hs pl pu q
def tSl(r:V→Option Int→Option Int→Hp→VK→Prop)(te:TE)(tl th:TO):TE:=fun σ H Q=>te σ H fun x H1=>tl σ H1 fun l H2=>th σ H2 fun u H3=>r x l u H3 Q
theorem gt{r:V→Option Int→Option Int→Hp→VK→Prop}(hr:SlR X r)(he:PE X e te)(hl:PO X lo tl)(hu:PO X hi th):PE X (.Subscript e (.Slice lo hi none p2) pos) (tSl r te tl th):=by
 intro pins s σ H Q I h
 refine Subscript_ (thn (he pins s σ H _ I h) fun v s1 ⟨x,H1,I1,r1,q1⟩=>?_)
 refine wpAny_Slice (thn (hl pins s1 σ H1 _ I1 q1) fun vl s2 ⟨l,H2,I2,pl,q2⟩=>thn (hu pins s2 σ H2 _ I2 q2) fun vu s3 ⟨u,H3,I3,pu,q3⟩=>?_)
 rw [evalPart_none]
 refine YB ?_
 have I4:Inv X pins σ H3 {s3 with heap:=s3.heap.push {cls:=.type "slice",data:=.fields #[vl,vu,.none]}}:=I3.kept (t':=s3.toks) fun b ob q=>YA _ q
 obtain⟨T,id,hT,ht,hg⟩:=hr pins {s3 with heap:=s3.heap.push {cls:=.type "slice",data:=.fields #[vl,vu,.none]}} σ H3 x v vl vu l u s3.heap.objs.size Q I4 r1 (Heap.IsSliceOf.new ..) pl pu q3
 show wpAny (model X.prog X.w) X.A (subscriptTail e (.Slice lo hi none p2) v (.ref s3.heap.objs.size)) (EP X pins σ Q) X.xe {s3 with heap:=s3.heap.push {cls:=.type "slice",data:=.fields #[vl,vu,.none]}}
 exact tail_any (ops:=[.ref s3.heap.objs.size,v]) ht hT hg (by with_unfolding_all rfl)
def fK(xs:List V)(lo hi:Option Int):List V:=(xs.drop (HT.sIx xs.length 0 lo)).take (HT.sIx xs.length xs.length hi-HT.sIx xs.length 0 lo)
theorem fg(xs:List V)(lo hi:Option Int):(fK xs lo hi).length≤xs.length:=by
 unfold fK
 rw [XX,List.length_drop]
 omega
inductive rSlT(K:WB)(x:V)(lo hi:Option Int)(H:Hp)(Q:VK):Prop | mk (a xs) (_:x=.ref a) (_:SqT K H a xs) (_:¬ (HT.sIx xs.length 0 lo=0∧HT.sIx xs.length xs.length hi=xs.length)) (_:∀ p,H p=none→Q (.ref p) (upd H p (.tup (fK xs lo hi))))
theorem sl_tup:SlR X (rSlT X.K):=by
 intro pins s σ H x v vl vu lo hi sl Q I rx hs pl pu h
 obtain⟨a,xs,rfl,hx,hw,q⟩:=h
 cases rx
 obtain⟨its,r,ht,hz⟩:=I.tuple hx
 have hlen:its.toArray.size=xs.length:=by rw [YL]; exact r.length.symm
 refine⟨"tuple",_,PyProof.Rows.slot_tuple_getitem.lookup,ht.typeIs,?_⟩
 refine HT.getItem_tuple_cut ht hs pl pu (by rw [hlen]; exact hw) ?_ (by rw [hlen]; exact hz)
 rw [hlen]
 refine⟨.ref s.heap.objs.size,_,I.laid (t':=s.toks) (o:=.tup (fK xs lo hi)) (fun b ob q=>YA _ q) (YD _) ?_,rfl,q _ (I.hok.fresh (YD _))⟩
 exact⟨YE (fg xs lo hi) hz,_,(r.drop (HT.sIx xs.length 0 lo)).take (HT.sIx xs.length xs.length hi-HT.sIx xs.length 0 lo),IsTup.new _ _⟩
inductive rCatT(K:WB)(x y:V)(H:Hp)(Q:VK):Prop | mk (a b xs ys) (_:x=.ref a) (_:y=.ref b) (_:SqT K H a xs) (_:SqT K H b ys) (_:xs≠[]) (_:xs.length+ys.length≤sizeLine) (_:(ys=[]→Q (.ref a) H)) (_:(ys≠[]→∀ p,H p=none→Q (.ref p) (upd H p (.tup (xs++ys)))))
theorem ax.nil_iff{xs:List V}{us:List Value}(r:ax xs us):us=[]↔xs=[]:=by
 cases r with
 | nil=>simp
 | cons _ _=>simp
theorem vG:OpR X (binaryOp .Add) (rCatT X.K):=by
 intro pins s σ H x y v u Q I rx ry h
 obtain⟨a,b,xs,ys,rfl,rfl,ha,hb,hx,hz,q1,q2⟩:=h
 cases rx
 cases ry
 obtain⟨its,r1,p1,_⟩:=I.tuple ha
 obtain⟨its2,r2,p2,_⟩:=I.tuple hb
 refine HT.cat_tup p1 p2 (fun z=>hx (r1.nil_iff.mp z)) (fun z=>⟨.ref a,H,I,rfl,q1 (r2.nil_iff.mp z)⟩) (fun z=>?_) (by rw [← r1.length,← r2.length]; exact hz)
 refine⟨.ref s.heap.objs.size,_,I.laid (t':=s.toks) (o:=.tup (xs++ys)) (fun b ob q=>YA _ q) (YD _) ?_,rfl,q2 (fun w=>z (r2.nil_iff.mpr w)) _ (I.hok.fresh (YD _))⟩
 exact⟨by rw [YY]; exact hz,_,r1.append r2,IsTup.new _ _⟩
end
def ixN(n:Nat)(i:Int):Option Nat:=if 0≤i then (if i<n then some i.toNat else none) else if -(n:Int)≤i then some (i+n).toNat else none
def atI{α:Type}(xs:List α)(i:Int):Option α:=(ixN xs.length i).bind fun j=>xs[j]?
theorem kU{n:Nat}{i:Int}{j:Nat}(h:ixN n i=some j):seqIndex? i n=some j∧j<n∧-(n:Int)≤i∧i<n:=by
 unfold ixN at h
 by_cases h0:0≤i
 ·rw [if_pos h0] at h
  by_cases h1:i<n
  ·rw [if_pos h1] at h
   have e:i.toNat=j:=Option.some.inj h
   exact⟨by rw [seqIndex_of h0 h1,e],by omega,by omega,h1⟩
  ·rw [if_neg h1] at h; cases h
 ·rw [if_neg h0] at h
  by_cases h1:-(n:Int)≤i
  ·rw [if_pos h1] at h
   have e:(i+n).toNat=j:=Option.some.inj h
   exact⟨by rw [seqIndex_neg (by omega) h1,e],by omega,h1,by omega⟩
  ·rw [if_neg h1] at h; cases h
theorem iI{α:Type}{xs:List α}{i:Int}{v:α}(h:atI xs i=some v):∃ j,seqIndex? i xs.length=some j∧xs[j]? = some v∧j<xs.length∧-(xs.length:Int)≤i∧i<xs.length:=by
 unfold atI at h
 cases e:ixN xs.length i with
 | none=>rw [e] at h; cases h
 | some j=>
  rw [e] at h
  obtain⟨h1,h2,h3,h4⟩:=kU e
  exact⟨j,h1,h,h2,h3,h4⟩
theorem pR{α:Type}{xs:List α}{j:Nat}{v:α}(h:xs[j]? = some v):atI xs (j:Int)=some v:=by
 have hj:j<xs.length:=(YV.mp h).1
 have e:ixN xs.length (j:Int)=some j:=by
  unfold ixN
  rw [if_pos (by omega),if_pos (by omega)]; simp
 unfold atI; rw [e]; exact h
def wR(b:Expr):Prop:=∀ o i,subscripted b false o i=operate [o,i] (getItem o i)
def IxR(X:Cx)(r:R2):Prop:=
 ∀ (value slice:Expr) (pins:List (Addr×Obj)) (s:Shared) (σ:St) (H:Hp) (x y:V) (v u:Value) (Q:VK),Inv X pins σ H s→ar x v→ar y u→r x y H Q→
  subscripted slice false v u=operate [v,u] (getItem v u)→wpAny (model X.prog X.w) X.A (subscriptTail value slice v u) (EP X pins σ Q) X.xe s
def MtR(X:Cx)(id:String)(r:V→List V→Hp→VK→Prop):Prop:=
 ∀ (pins:List (Addr×Obj)) (s:Shared) (σ:St) (H:Hp) (x:V) (xs:List V) (v:Value) (us:List Value) (Q:VK),Inv X pins σ H s→ar x v→ax xs us→r x xs H Q→
  wpAny (model X.prog X.w) X.A (call (.builtin id) (v::us)) (EP X pins σ Q) X.xe s
section
variable{X:Cx}{a b:Expr}{ta tb:TE}{pos:Pos}
theorem IxR.or{r r':R2}(h:IxR X r)(h':IxR X r'):IxR X (fun x y H Q=>r x y H Q∨r' x y H Q):=by
 intro value slice pins s σ H x y v u Q I rx ry q hs
 rcases q with q | q
 ·exact h value slice pins s σ H x y v u Q I rx ry q hs
 ·exact h' value slice pins s σ H x y v u Q I rx ry q hs
theorem cY{r:R2}(hr:IxR X r)(ha:PE X a ta)(hb:PE X b tb)(hs:wR b):PE X (.Subscript a b pos) (tOp r ta tb):=by
 intro pins s σ H Q I h
 exact Subscript_ (yJ ha hb I h fun v u s2 x y H2 I2 rx ry q=>hr a b pins s2 σ H2 x y v u Q I2 rx ry q (hs _ _))
inductive rIxL(K:WB)(x y:V)(H:Hp)(Q:VK):Prop | mk (p xs i v) (_:x=.ref p) (_:y=.int i) (_:SqL K H p xs) (_:atI xs i=some v) (_:Q v H)
inductive rIxT(K:WB)(x y:V)(H:Hp)(Q:VK):Prop | mk (p xs i v) (_:x=.ref p) (_:y=.int i) (_:SqT K H p xs) (_:atI xs i=some v) (_:Q v H)
inductive rIxS(x y:V)(H:Hp)(Q:VK):Prop | mk (z i c) (_:x=.str z) (_:y=.int i) (_:z.length≤sizeLine) (_:atI z.cps.toList i=some c) (_:Q (.str ⟨#[c]⟩) H)
theorem ix_list:IxR X (rIxL X.K):=by
 intro value slice pins s σ H x y v u Q I rx ry h hs
 obtain⟨p,xs,i,z,rfl,rfl,hq,he,q⟩:=h
 cases rx
 obtain⟨t,rfl⟩:=ry
 obtain⟨its,r,pl,hz⟩:=I.list hq
 obtain⟨j,h1,h2,h3,h4,h5⟩:=iI he
 obtain⟨w,ew,rw'⟩:=r.get h2
 have hl:=r.length
 have hn:=gc
 have fin:EP X pins σ Q w s:=⟨z,H,I,rw',q⟩
 by_cases h0:0≤i
 ·have hj:i.toNat=j:=by
   rw [seqIndex_of h0 h5] at h1
   exact Option.some.inj h1
  exact item_listR pl.isList h0 (by omega) (by rw [hj]; simpa using ew) fin hs
 ·have hj:(i+(its.toArray.size:Int)).toNat=j:=by
   rw [seqIndex_neg (by omega) h4] at h1
   rw [YL,← hl]
   exact Option.some.inj h1
  exact subscriptTail_builtinR (x:=w) pl.isList.typeIs slot_list_getitem.lookup
   (wpAny_getItem_list_neg (Q:=fun r s'=>r=w∧EP X pins σ Q r s') pl.isList (by omega) (by rw [YL] <;> omega) (by omega) (by rw [hj]; simpa using ew) ⟨rfl,fin⟩) hs
theorem ix_tup:IxR X (rIxT X.K):=by
 intro value slice pins s σ H x y v u Q I rx ry h hs
 obtain⟨p,xs,i,z,rfl,rfl,hq,he,q⟩:=h
 cases rx
 obtain⟨t,rfl⟩:=ry
 obtain⟨its,r,pl,hz⟩:=I.tuple hq
 obtain⟨j,h1,h2,h3,h4,h5⟩:=iI he
 obtain⟨w,ew,rw'⟩:=r.get h2
 have hl:=r.length
 have hn:=gc
 have fin:EP X pins σ Q w s:=⟨z,H,I,rw',q⟩
 exact subscriptTail_builtinR (x:=w) pl.typeIs slot_tuple_getitem.lookup
  (getItem_tuple (j:=j) (Q:=fun r s'=>r=w∧EP X pins σ Q r s') pl (by omega) (by omega) (by rw [YL,← hl]; exact h1) (by simpa using ew) ⟨rfl,fin⟩) hs
theorem yu:IxR X rIxS:=by
 intro value slice pins s σ H x y v u Q I rx ry h hs
 obtain⟨z,i,c,rfl,rfl,hz,he,q⟩:=h
 obtain⟨t,rfl⟩:=rx
 obtain⟨t',rfl⟩:=ry
 obtain⟨j,h1,h2,h3,h4,h5⟩:=iI he
 have hl:z.cps.toList.length=z.length:=by simp [Str.length]
 rw [hl] at h1 h4 h5
 have hn:=gc
 exact tail_any (typeIs_str s z t) slot_str_getitem.lookup (getItem_str (c:=c) (by
  have e1:decide (i < -(2 ^ 63:Int))=false:=decide_eq_false (by omega)
  have e2:decide (i≥2 ^ 63)=false:=decide_eq_false (by omega)
  rw [e1,e2,Bool.or_false]) (by rw [h1]; simpa using h2) ⟨.str ⟨#[c]⟩,H,I.tok _,⟨_,rfl⟩,q⟩) hs
def rIx(K:WB):R2:=fun x y H Q=>rIxL K x y H Q∨rIxT K x y H Q∨rIxS x y H Q
theorem yv:IxR X (rIx X.K):=ix_list.or (ix_tup.or yu)
theorem og(its:List Value)(n j:Nat)(u:Value):Obj.mapSeq (·.setIfInBounds j u) {cls:=.type "list",data:=.seq its.toArray n}={cls:=.type "list",data:=.seq (its.set j u).toArray n}:=by
 simp [Obj.mapSeq]
theorem Inv.lst{pins:List (Addr×Obj)}{σ:St}{H:Hp}{s:Shared}{p:Addr}{xs:List V}(I:Inv X pins σ H s)(h:H p=some (.lst xs)):
  ∃ (its:List Value) (n:Nat),ax xs its∧s.heap.get? p=some {cls:=.type "list",data:=.seq its.toArray n}∧xs.length≤sizeLine:=by
 obtain⟨z,its,n,r,e⟩:=I.hok p _ h
 exact⟨its,n,r,e,z⟩
theorem Inv.lstUpd{pins:List (Addr×Obj)}{σ:St}{H:Hp}{s:Shared}{p:Addr}{xs ys:List V}{its its':List Value}{n n':Nat}{f:Obj→Obj}(I:Inv X pins σ H s)(h:H p=some (.lst xs))
  (ho:s.heap.get? p=some {cls:=.type "list",data:=.seq its.toArray n}) (hf:f {cls:=.type "list",data:=.seq its.toArray n}={cls:=.type "list",data:=.seq its'.toArray n'}) (r:ax ys its') (hz:ys.length≤sizeLine) (t:Nat) :
  Inv X pins σ (upd H p (.lst ys)) {s with heap:=s.heap.update p f,toks:=t}:=by
 have e:(s.heap.update p f).get? p=some {cls:=.type "list",data:=.seq its'.toArray n'}:=by
  rw [X1 f ho (by rw [hf] <;> rfl),hf]
 refine I.write (x:=p) (e:=p) (by rw [h]; trivial) (.inl rfl) (fun b u hb q=>(XY _ _ (Ne.symm hb)).trans q) ⟨_,e⟩ ?_
 exact⟨hz,its',n',r,e⟩
inductive rSetL(o i v:V)(H:Hp)(Q:Hp→Prop):Prop | mk (p xs k j) (_:o=.ref p) (_:i=.int k) (_:H p=some (.lst xs)) (_:ixN xs.length k=some j) (_:Q (upd H p (.lst (xs.set j v))))
theorem lL:yL X rSetL:=by
 intro pins s σ H o i v ov iv u Q I ro ri rv h
 obtain⟨p,xs,k,j,rfl,rfl,hp,hj,q⟩:=h
 cases ro
 obtain⟨t,rfl⟩:=ri
 obtain⟨its,n,r,ho,hz⟩:=I.lst hp
 obtain⟨h1,h2,h3,h4⟩:=kU hj
 have hl:=r.length
 have hn:=gc
 have I':Inv X pins σ (upd H p (.lst (xs.set j v))) {s with heap:=s.heap.update p (Obj.mapSeq (·.setIfInBounds j u))}:=
  I.lstUpd hp ho (og its n j u) (r.set rv j) (by rw [List.length_set]; exact hz) s.toks
 by_cases h0:0≤k
 ·have hk:k.toNat=j:=by
   rw [seqIndex_of h0 h4] at h1
   exact Option.some.inj h1
  exact PySem.W.ki_setAt ho h0 (by omega) (by rw [YL,← hl]; exact h4) (by rw [hk]; exact⟨_,I',q⟩)
 ·have hk:(k+(its.toArray.size:Int)).toNat=j:=by
   rw [seqIndex_neg (by omega) h3] at h1
   rw [YL,← hl]
   exact Option.some.inj h1
  exact PySem.W.ki_setBack ho (by omega) (by rw [YL,← hl]; exact h3) (by omega) (by rw [hk]; exact⟨_,I',q⟩)
theorem kC(lo hi:Option Int)(n:Nat):(sliceBounds lo hi none n).1=((HT.sIx n 0 lo:Nat):Int)∧(sliceBounds lo hi none n).2.1=((HT.sIx n n hi:Nat):Int)∧(sliceBounds lo hi none n).2.2=1:=by
 refine⟨?_,?_,rfl⟩
 ·cases lo with
  | none=>simp [sliceBounds,HT.sIx]
  | some i=>
   simp only [sliceBounds,HT.sIx,Option.getD_none,show (1:Int) > 0 by decide,if_true]
   by_cases h:i<0
   ·simp only [h,if_true] <;> omega
   ·simp only [h,if_false] <;> omega
 ·cases hi with
  | none=>simp [sliceBounds,HT.sIx]
  | some i=>
   simp only [sliceBounds,HT.sIx,Option.getD_none,show (1:Int) > 0 by decide,if_true]
   by_cases h:i<0
   ·simp only [h,if_true] <;> omega
   ·simp only [h,if_false] <;> omega
theorem jv(its:List Value)(lo hi:Option Int):slicePick its.toArray lo hi none=((its.drop (HT.sIx its.length 0 lo)).take (HT.sIx its.length its.length hi-HT.sIx its.length 0 lo)).toArray:=by
 obtain⟨h1,h2,h3⟩:=kC lo hi its.toArray.size
 unfold slicePick
 rw [h1,h2,h3]
 simp only [sliceRange_one,pick_run,YL] <;> rfl
inductive rSlL(K:WB)(x:V)(lo hi:Option Int)(H:Hp)(Q:VK):Prop | mk (a xs) (_:x=.ref a) (_:SqL K H a xs) (_:∀ p,H p=none→Q (.ref p) (upd H p (.lst (fK xs lo hi))))
theorem sl_list:SlR X (rSlL X.K):=by
 intro pins s σ H x v vl vu lo hi sl Q I rx hs pl pu h
 obtain⟨a,xs,rfl,hx,q⟩:=h
 cases rx
 obtain⟨its,r,ht,hz⟩:=I.list hx
 have hlen:=r.length
 refine⟨"list",_,slot_list_getitem.lookup,ht.isList.typeIs,?_⟩
 refine wpAny_getItem_list_slice ht.isList hs pl pu .none (by simp) ?_ (by rw [YL] <;> omega)
 rw [jv,← hlen]
 refine⟨.ref s.heap.objs.size,_,I.laid (t':=s.toks) (o:=.lst (fK xs lo hi)) (fun b ob q=>YA _ q) (YD _) ?_,rfl,q _ (I.hok.fresh (YD _))⟩
 exact⟨YE (fg xs lo hi) hz,_,0,(r.drop (HT.sIx xs.length 0 lo)).take (HT.sIx xs.length xs.length hi-HT.sIx xs.length 0 lo),YJ _ rfl⟩
def dv:V→Bool
 | .non=>true
 | .bl _=>true
 | .int _=>true
 | .str _=>true
 | _=>false
def eqV:V→V→Bool
 | .non,.non=>true
 | .bl a,.bl b=>a==b
 | .bl a,.int b=>(if a then 1 else 0)==b
 | .int a,.bl b=>a==(if b then 1 else 0)
 | .int a,.int b=>a==b
 | .str a,.str b=>a==b
 | _,_=>false
theorem oy{A:Around}{s:Shared}{y x:V}{u v:Value}(ry:ar y u)(rx:ar x v)(fy:dv y=true)(fx:dv x=true):SeqAt.EqAt A s u v (eqV y x):=by
 cases y with
 | non=>
  cases ry
  cases x with
  | non=>cases rx; exact SeqAt.EqAt.same _
  | bl b=>cases rx; exact SeqAt.EqAt.none_bool b
  | int b=>obtain⟨t,rfl⟩:=rx; exact SeqAt.EqAt.none_int b t
  | str b=>obtain⟨t,rfl⟩:=rx; exact SeqAt.EqAt.none_str b t
  | _=>exact absurd (show false=true from fx) YN
 | bl a=>
  cases ry
  cases x with
  | non=>cases rx; exact SeqAt.EqAt.bool_none a
  | bl b=>cases rx; exact SeqAt.EqAt.bool_bool a b
  | int b=>obtain⟨t,rfl⟩:=rx; exact SeqAt.EqAt.bool_int a b t
  | str b=>obtain⟨t,rfl⟩:=rx; exact SeqAt.EqAt.bool_str a b t
  | _=>exact absurd (show false=true from fx) YN
 | int a=>
  obtain⟨t',rfl⟩:=ry
  cases x with
  | non=>cases rx; exact SeqAt.EqAt.int_none a t'
  | bl b=>cases rx; exact SeqAt.EqAt.int_bool a t' b
  | int b=>obtain⟨t,rfl⟩:=rx; exact SeqAt.EqAt.int_int a t' b t
  | str b=>obtain⟨t,rfl⟩:=rx; exact SeqAt.EqAt.int_str a t' b t
  | _=>exact absurd (show false=true from fx) YN
 | str a=>
  obtain⟨t',rfl⟩:=ry
  cases x with
  | non=>cases rx; exact SeqAt.EqAt.str_none a t'
  | bl b=>cases rx; exact SeqAt.EqAt.str_bool a t' b
  | int b=>obtain⟨t,rfl⟩:=rx; exact SeqAt.EqAt.str_int a t' b t
  | str b=>obtain⟨t,rfl⟩:=rx; exact SeqAt.EqAt.str_str a t' b t
  | _=>exact absurd (show false=true from fx) YN
 | _=>exact absurd (show false=true from fy) YN
def eqU(x:V)(u:Value):Bool:=match u with
 | .none=>eqV .non x
 | .bool b=>eqV (.bl b) x
 | .int i _=>eqV (.int i) x
 | .str z _=>eqV (.str z) x
 | _=>false
theorem uJ{x y:V}{u:Value}(r:ar y u)(f:dv y=true):eqU x u=eqV y x:=by
 cases y with
 | non=>cases r; rfl
 | bl b=>cases r; rfl
 | int i=>obtain⟨t,rfl⟩:=r; rfl
 | str z=>obtain⟨t,rfl⟩:=r; rfl
 | _=>exact absurd (show false=true from f) YN
theorem gM{x:V}:∀ {xs:List V} {us:List Value},ax xs us→xs.all dv=true→us.any (eqU x)=xs.any fun y=>eqV y x
 | _,_,.nil,_=>rfl
 | y::xs,u::us,.cons r t,f=>by
  rw [List.all_cons,YW] at f
  rw [XW,XW,uJ r f.1,gM t f.2]
theorem e7{A:Around}{s:Shared}{x:V}{v:Value}(rx:ar x v)(fx:dv x=true):∀ {xs:List V} {us:List Value},ax xs us→xs.all dv=true→∀ u∈us,SeqAt.EqAt A s u v (eqU x u)
 | _,_,.nil,_=>fun u hu=>by cases hu
 | y::xs,u::us,.cons r t,f=>fun u' hu=>by
  rw [List.all_cons,YW] at f
  rcases YM.mp hu with rfl | hu
  ·rw [uJ r f.1]; exact oy r rx f.1 fx
  ·exact e7 rx fx t f.2 u' hu
def inV(x:V)(xs:List V):Bool:=xs.any fun y=>eqV y x
inductive rIn(K:WB)(neg:Bool)(x y:V)(H:Hp)(Q:VK):Prop | mk (p xs) (_:y=.ref p) (_:(SqL K H p xs∨SqT K H p xs)) (_:dv x=true) (_:xs.all dv=true) (_:Q (.bl (if neg then !inV x xs else inV x xs)) H)
theorem qt:OpR X (compareOp .In) (rIn X.K false):=by
 intro pins s σ H x y v u Q I rx ry h
 obtain⟨p,xs,rfl,hq,fx,fs,q⟩:=h
 cases ry
 rcases hq with hq | hq
 ·obtain⟨its,r,pl,hz⟩:=I.list hq
  refine SeqAt.in_listAt (eqU x) pl.isList (fun w hw=>e7 rx fx r fs w (by simpa using hw)) ⟨.bl _,H,I,rfl,?_⟩
  rw [show its.toArray.any (eqU x)=its.any (eqU x) by simp,gM r fs]
  exact q
 ·obtain⟨its,r,pl,hz⟩:=I.tuple hq
  refine SeqAt.in_tupleAt (eqU x) pl (fun w hw=>e7 rx fx r fs w (by simpa using hw)) ⟨.bl _,H,I,rfl,?_⟩
  rw [show its.toArray.any (eqU x)=its.any (eqU x) by simp,gM r fs]
  exact q
theorem kP:OpR X (compareOp .NotIn) (rIn X.K true):=by
 intro pins s σ H x y v u Q I rx ry h
 obtain⟨p,xs,rfl,hq,fx,fs,q⟩:=h
 cases ry
 rcases hq with hq | hq
 ·obtain⟨its,r,pl,hz⟩:=I.list hq
  refine SeqAt.notIn_listAt (eqU x) pl.isList (fun w hw=>e7 rx fx r fs w (by simpa using hw)) ⟨.bl _,H,I,rfl,?_⟩
  rw [show its.toArray.any (eqU x)=its.any (eqU x) by simp,gM r fs]
  exact q
 ·obtain⟨its,r,pl,hz⟩:=I.tuple hq
  refine SeqAt.notIn_tupleAt (eqU x) pl (fun w hw=>e7 rx fx r fs w (by simpa using hw)) ⟨.bl _,H,I,rfl,?_⟩
  rw [show its.toArray.any (eqU x)=its.any (eqU x) by simp,gM r fs]
  exact q
inductive rCall_len_seqI(K:WB)(xs:List V)(H:Hp)(Q:VK):Prop | mk (p ys) (_:xs=[.ref p]) (_:(SqL K H p ys∨SqT K H p ys)) (_:Q (.int ys.length) H)
theorem gJ:bZ X (.builtin "len") (rCall_len_seqI X.K):=by
 intro pins s σ H xs us Q I r h
 obtain⟨p,ys,rfl,hq,q⟩:=h
 obtain⟨u,rfl,rx⟩:=dj r
 cases rx
 have hn:=gc
 rcases hq with hq | hq
 ·obtain⟨its,r',pl,hz⟩:=I.list hq
  have hlen:=r'.length
  exact Calls.call_len_list pl.isList (by simp only [YL] <;> omega) ⟨.int ys.length,H,I.tok _,⟨s.toks+1,by rw [YL,hlen]⟩,q⟩
 ·obtain⟨its,r',pl,hz⟩:=I.tuple hq
  have hlen:=r'.length
  exact len_tuple pl (by simp only [YL] <;> omega) ⟨.int ys.length,H,I.tok _,⟨s.toks+1,by rw [YL,hlen]⟩,q⟩
inductive rCall_len_strI(xs:List V)(H:Hp)(Q:VK):Prop | mk (z) (_:xs=[.str z]) (_:z.length≤sizeLine) (_:Q (.int z.length) H)
theorem li:bZ X (.builtin "len") rCall_len_strI:=by
 intro pins s σ H xs us Q I r h
 obtain⟨z,rfl,hz,q⟩:=h
 obtain⟨u,rfl,t,rfl⟩:=dj r
 have hn:=gc
 exact len_str (by omega) ⟨.int z.length,H,I.tok _,⟨_,rfl⟩,q⟩
inductive rCall_list_ofI(K:WB)(xs:List V)(H:Hp)(Q:VK):Prop | mk (p ys) (_:xs=[.ref p]) (_:(SqL K H p ys∨SqT K H p ys)) (_:∀ l,H l=none→Q (.ref l) (upd H l (.lst ys)))
theorem gH:bZ X (.type "list") (rCall_list_ofI X.K):=by
 intro pins s σ H xs us Q I r h
 obtain⟨p,ys,rfl,hq,q⟩:=h
 obtain⟨u,rfl,rx⟩:=dj r
 cases rx
 have fin:∀ (its:List Value),ax ys its→ys.length≤sizeLine→∀ (h':Heap) (c':Nat),(∀ b o',s.heap.get? b=some o'→h'.get? b=some o')→
   h'.get? s.heap.objs.size=some {cls:=.type "list",dict:=none,data:=.seq its.toArray c',slots:=#[]}→EP X pins σ Q (.ref s.heap.objs.size) {s with heap:=h'}:=fun its r' hz h' c' kp e=>
  ⟨.ref s.heap.objs.size,_,I.laid (t':=s.toks) kp (YD _) (show aM X.prog X.w _ h' _ (.lst ys) from ⟨hz,its,c',r',e⟩),rfl,q _ (I.hok.fresh (YD _))⟩
 rcases hq with hq | hq
 ·obtain⟨its,r',pl,hz⟩:=I.list hq
  have hlen:=r'.length
  obtain⟨o,ho,hc,n,hd⟩:=pl.isList
  exact call_list_seq p (.inl rfl) ho hc hd (fun h' c' kp e=>fin its r' hz h' c' kp e) (by simp only [YL] <;> omega)
 ·obtain⟨its,r',pl,hz⟩:=I.tuple hq
  have hlen:=r'.length
  obtain⟨o,ho,hc,n,hd⟩:=pl
  exact call_list_seq p (.inr rfl) ho hc hd (fun h' c' kp e=>fin its r' hz h' c' kp e) (by simp only [YL] <;> omega)
inductive rCall_tuple_ofI(K:WB)(xs:List V)(H:Hp)(Q:VK):Prop | mk (p ys) (_:xs=[.ref p]) (_:((SqL K H p ys∧∀ l,H l=none→Q (.ref l) (upd H l (.tup ys)))∨(SqT K H p ys∧Q (.ref p) H)))
theorem jy:bZ X (.type "tuple") (rCall_tuple_ofI X.K):=by
 intro pins s σ H xs us Q I r h
 obtain⟨p,ys,rfl,h⟩:=h
 obtain⟨u,rfl,rx⟩:=dj r
 cases rx
 rcases h with ⟨hq,q⟩ | ⟨hq,q⟩
 ·obtain⟨its,r',pl,hz⟩:=I.list hq
  have hlen:=r'.length
  refine call_tuple_list pl.isList (fun h' kp=>?_) (by simp only [YL] <;> omega)
  have I1:Inv X pins σ H {s with heap:=h'}:=I.kept (t':=s.toks) kp
  have I2:Inv X pins σ (upd H h'.objs.size (.tup ys)) {s with heap:=h'.push {cls:=.type "tuple",data:=.seq its.toArray}}:=
   I1.laid (t':=s.toks) (fun b o e=>YA _ e) (YD _) (show aM X.prog X.w _ _ _ (.tup ys) from ⟨hz,its,r',IsTup.new _ _⟩)
  exact⟨.ref h'.objs.size,_,I2,rfl,q _ (I1.hok.fresh (YD _))⟩
 ·obtain⟨its,r',pl,hz⟩:=I.tuple hq
  exact call_tuple_same pl ⟨.ref p,H,I,rfl,q⟩
def tyV(K:WB)(T:String)(x:V)(H:Hp):Prop:=match x with
 | .str _=>T="str"
 | .int _=>T="int"
 | .ref p=>(T="list"∧∃ xs,SqL K H p xs)∨(T="tuple"∧∃ o,K.lookup p=some o∧o.cls=.type "tuple"∧o.dict=none)∨
   (T="dict"∧((∃ kvs,H p=some (.dK kvs))∨∃ kvs,H p=some (.dT kvs)))∨(T="set"∧∃ S n,H p=some (.set S n))
 | _=>False
theorem xj{pins:List (Addr×Obj)}{σ:St}{H:Hp}{s:Shared}{T:String}{x:V}{v:Value}(I:Inv X pins σ H s)(r:ar x v)(ty:tyV X.K T x H):
  s.TypeIs v T∧∀ a,v=.ref a→∃ ob,s.heap.get? a=some ob∧ob.dict=none:=by
 cases x with
 | str z=>
  obtain⟨t,rfl⟩:=r
  cases (show T="str" from ty)
  exact⟨typeIs_str s z t,fun _ e=>nomatch e⟩
 | int i=>
  obtain⟨t,rfl⟩:=r
  cases (show T="int" from ty)
  exact⟨typeIs_int s i t,fun _ e=>nomatch e⟩
 | ref p=>
  cases r
  rcases ty with ⟨rfl,xs,hq⟩ | ⟨rfl,o,hk,hc,hd⟩ | ⟨rfl,hk⟩ | ⟨rfl,S,n,hk⟩
  ·obtain⟨its,_,pl,_⟩:=I.list hq
   refine⟨pl.isList.typeIs,fun a e=>?_⟩
   cases e
   obtain⟨o,n,e,c,hd,_⟩:=pl
   exact⟨o,e,hd⟩
  ·refine⟨⟨o,I.kIn p o hk,hc⟩,fun a e=>?_⟩
   cases e
   exact⟨o,I.kIn _ o hk,hd⟩
  ·have z:∃ o,s.heap.get? p=some o∧o.ExactDict:=by
    rcases hk with ⟨kvs,hk⟩ | ⟨kvs,hk⟩
    ·obtain⟨_,_,_,_,o,_,_,e,ex,_⟩:=I.hok p _ hk
     exact⟨o,e,ex⟩
    ·obtain⟨_,_,_,_,o,_,_,e,ex,_⟩:=I.hok p _ hk
     exact⟨o,e,ex⟩
   obtain⟨o,e,ex⟩:=z
   refine⟨⟨o,e,ex.1⟩,fun a e2=>?_⟩
   cases e2
   exact⟨o,e,ex.2.1⟩
  ·obtain⟨o,_,_,_,e,ex,_⟩:=I.hok p _ hk
   refine⟨⟨o,e,ex.1⟩,fun a e2=>?_⟩
   cases e2
   exact⟨o,e,ex.2.1⟩
 | _=>exact False.elim ty
def tBM(K:WB)(T:String)(r:V→List V→Hp→VK→Prop)(to:TE)(t:TA):TE:=fun σ H Q=>to σ H fun x H1=>tyV K T x H1∧t σ H1 fun xs H2=>r x xs H2 Q
variable{o e:Expr}{es:List Expr}{to:TE}{t:TA}{name:Str}{apos cpos:Pos}{T id:String}{r:V→List V→Hp→VK→Prop}
theorem sM(pa:PlainAttrs T)(slot:Slot T name id)(hty:typeOf (.builtin id)=pure (.type "method_descriptor"))(hm:MtR X id r)(ho:PE X o to)(ha:PA X (e::es) t)
  (hbase:attributeBase o name X.env (eval o X.env)=eval o X.env:=by rfl)
  (hfew:((backTo cpos (starEach (e::es) X.env)).all (fun x=>!x.1)&&(backToKw cpos (keywordEach [] X.env)).all (fun x=>x.1.isSome)
   && decide ((e::es).length+([]:List Keyword).length+(if ([]:List Keyword).isEmpty then 0 else 1)<30))=true:=by rfl)
  (hline:(apos.endLine==cpos.line)=true:=by rfl) (hs:starEach (e::es) X.env=(false,eval e X.env)::starEach es X.env:=by rfl) (hplain:(backTo cpos (starEach es X.env)).any (·.1)=false:=by rfl) :
  PE X (.Call (.Attribute o name apos) (e::es) [] cpos) (tBM X.K T r to t):=by
 intro pins s σ H Q I h
 refine wpAny_Call_method_late hbase hfew hline rfl (thn (ho pins s σ H _ I h) fun v s1 ⟨x,H1,I1,r1,ty,q1⟩=>?_)
 obtain⟨h1,h2⟩:=xj I1 r1 ty
 refine⟨T,id,pa,slot,hty,h1,h2,?_⟩
 have hA:=ha cpos pins s1 σ H1 _ I1 q1
 rw [hs] at hA ⊢
 refine Calls.callWith_builtin (by show (false||(backTo cpos (starEach es X.env)).any (·.1))=false; rw [hplain] <;> rfl) (Calls.evalArgs_plain ?_)
 exact thn hA fun us s2 ⟨vs,H2,I2,r2,q2⟩=>hm pins s2 σ H2 x vs v us Q I2 r1 r2 q2
end
def MtM(X:Cx)(id:String)(r:V→List V→Hp→VK→Prop):Prop:=
 ∀ (pins:List (Addr×Obj)) (s:Shared) (σ:St) (H:Hp) (x:V) (xs:List V) (v:Value) (us:List Value) (Q:VK),Inv X pins σ H s→ar x v→ax xs us→r x xs H Q→
  wpAny (model X.prog X.w) X.A (call (.builtin id) (v::us)) (EP X pins σ Q) X.xe s
theorem ax.one:∀ {x:V} {us:List Value},ax [x] us→∃ u,us=[u]∧ar x u
 | _,_,.cons r .nil=>⟨_,rfl,r⟩
theorem ax.eraseIdx:∀ {xs:List V} {us:List Value} (i:Nat),ax xs us→ax (xs.eraseIdx i) (us.eraseIdx i)
 | _,_,_,.nil=>.nil
 | _,_,0,.cons _ t=>t
 | _,_,i+1,.cons r t=>.cons r (ax.eraseIdx i t)
theorem ax.rep{xs:List V}{us:List Value}(h:ax xs us):∀ k:Nat,ax (List.replicate k xs).flatten (List.replicate k us).flatten
 | 0=>.nil
 | k+1=>by
  rw [X9,X9,List.flatten_cons,List.flatten_cons]
  exact ax.append h (ax.rep h k)
theorem jQ{α:Type}:∀ (l:List α) (i:Nat),(l.eraseIdx i).length≤l.length
 | [],_=>YD _
 | _::_,0=>Nat.le_succ _
 | _::r,i+1=>Nat.succ_le_succ (jQ r i)
theorem jV(its:List Value):∀ (k:Nat) (acc:List Value),
  List.foldl (fun x1 x2=>x1++x2) acc.toArray (List.replicate k its.toArray)=(acc++(List.replicate k its).flatten).toArray
 | 0,acc=>by simp
 | k+1,acc=>by
  have e:acc.toArray++its.toArray=(acc++its).toArray:=by simp
  have e2:(acc++its)++(List.replicate k its).flatten=acc++(List.replicate (k+1) its).flatten:=by
   rw [X9,List.flatten_cons,X6]
  rw [← e2,← jV its k (acc++its),← e,X9,List.foldl_cons]
section
variable{X:Cx}{pins:List (Addr×Obj)}{σ:St}{H:Hp}{s:Shared}{l b:Addr}{xs ys zs:List V}
theorem Inv.lset{its its':List Value}{n:Nat}{f:Array Value→Array Value}{t':Nat}(I:Inv X pins σ H s)(hH:H l=some (.lst xs))
  (e:s.heap.get? l=some {cls:=.type "list",data:=.seq its.toArray n}) (hf:f its.toArray=its'.toArray) (hv:ax ys its') (hz:ys.length≤sizeLine) :
  Inv X pins σ (upd H l (.lst ys)) {s with heap:=s.heap.update l (Obj.mapSeq f),toks:=t'}:=by
 have q:=PySem.IsL.update e f
 rw [hf] at q
 refine I.write (x:=l) (e:=l) (by rw [hH]; exact trivial) (.inl rfl) (fun b' u hb hu=>(XY s.heap (Obj.mapSeq f) (Ne.symm hb)).trans hu) ⟨_,q⟩ ?_
 exact⟨hz,its',_,hv,q⟩
theorem Inv.lnew{its:List Value}{t':Nat}(I:Inv X pins σ H s)(hv:ax ys its)(hz:ys.length≤sizeLine):
  Inv X pins σ (upd H s.heap.objs.size (.lst ys)) {s with heap:=s.heap.push {cls:=.type "list",data:=.seq its.toArray},toks:=t'}:=
 I.laid (fun _ _ q=>YA _ q) (YD _) ⟨hz,its,0,hv,YJ _ rfl⟩
theorem Inv.fresh(I:Inv X pins σ H s):H s.heap.objs.size=none:=I.hok.fresh (YD _)
theorem Inv.lstM(I:Inv X pins σ H s)(hH:H l=some (.lst xs)):xs.length≤sizeLine∧∃ (its:List Value) (n:Nat),ax xs its∧xs.length=its.length∧s.heap.get? l=some {cls:=.type "list",data:=.seq its.toArray n}:=by
 obtain⟨z,its,n,r,e⟩:=I.hok l _ hH
 exact⟨z,its,n,r,r.length,e⟩
theorem tV{n:Nat}(h:n≤sizeLine):Builtin.List.listTooLong n=false:=by
 unfold Builtin.List.listTooLong
 exact decide_eq_false (by omega)
end
section
variable{X:Cx}
inductive rAppend(x:V)(vs:List V)(H:Hp)(Q:VK):Prop | mk (l xs y) (_:x=.ref l) (_:vs=[y]) (_:H l=some (.lst xs)) (_:xs.length<sizeLine) (_:Q .non (upd H l (.lst (xs++[y]))))
theorem qB:MtM X "list.append" rAppend:=by
 intro pins s σ H x vs v us Q I rx rv h
 obtain⟨l,xs,y,rfl,rfl,hH,hz,q⟩:=h
 cases rx
 obtain⟨u,rfl,ru⟩:=rv.one
 obtain⟨z,its,n,r,hl,e⟩:=I.lstM hH
 refine call_meets F.slot_list_append ⟨_,e,rfl⟩ F.entry_list_append (F.args_list_append_2 _ _) (PySem.list_append l its.toArray n u (by rw [YL]; omega)) ⟨e,?_⟩
 refine⟨.non,_,I.lset (its':=its++[u]) hH e (by simp) (r.append (.cons ru .nil)) ?_,rfl,q⟩
 rw [YY,XH]
 omega
inductive rPopAt(x:V)(vs:List V)(H:Hp)(Q:VK):Prop | mk (l xs i k y) (_:x=.ref l) (_:vs=[.int i]) (_:H l=some (.lst xs)) (_:-(2 ^ 63)≤i) (_:i<2 ^ 63) (_:seqIndex? i xs.length=some k) (_:xs[k]? = some y) (_:Q y (upd H l (.lst (xs.eraseIdx k))))
theorem tY:MtM X "list.pop" rPopAt:=by
 intro pins s σ H x vs v us Q I rx rv h
 obtain⟨l,xs,i,k,y,rfl,rfl,hH,h1,h2,hk,hy,q⟩:=h
 cases rx
 obtain⟨u,rfl,ru⟩:=rv.one
 obtain⟨t,rfl⟩:=ru
 obtain⟨z,its,n,r,hl,e⟩:=I.lstM hH
 obtain⟨w,hw,rw'⟩:=r.get hy
 refine call_meets F.slot_list_pop ⟨_,e,rfl⟩ F.entry_list_pop (F.args_list_pop_2 _ _)
  (MeetsSeq.list_pop_at l its.toArray n i t k w (fitsIndex_both h1 h2) (by rw [YL,← hl]; exact hk) (by rw [← Array.getElem?_toList]; exact hw) (by rw [YL]; omega)) ⟨e,?_⟩
 refine⟨y,_,I.lset (its':=its.eraseIdx k) hH e ?_ (r.eraseIdx k) ?_,rw',q⟩
 ·show its.toArray.eraseIdxIfInBounds k=(its.eraseIdx k).toArray
  rw [List.eraseIdxIfInBounds_toArray]
 ·have:=jQ xs k
  omega
inductive rCat(x y:V)(H:Hp)(Q:VK):Prop | mk (l b xs zs) (_:x=.ref l) (_:y=.ref b) (_:H l=some (.lst xs)) (_:H b=some (.lst zs)) (_:xs.length+zs.length≤sizeLine) (_:∀ p,H p=none→Q (.ref p) (upd H p (.lst (xs++zs))))
theorem eY:OpR X (binaryOp .Add) rCat:=by
 intro pins s σ H x y v u Q I rx ry h
 obtain⟨l,b,xs,zs,rfl,rfl,hH,hB,hz,q⟩:=h
 cases rx
 cases ry
 obtain⟨z,its,n,r,hl,e⟩:=I.lstM hH
 obtain⟨z2,its2,n2,r2,hl2,e2⟩:=I.lstM hB
 refine PySem.P.add_list e e2 ?_ (by rw [YL,YL]; omega)
 have ea:its.toArray++its2.toArray=(its++its2).toArray:=by simp
 rw [ea]
 exact⟨.ref _,_,I.lnew (t':=s.toks) (r.append r2) (by rw [YY]; omega),rfl,q _ I.fresh⟩
inductive rRep(x y:V)(H:Hp)(Q:VK):Prop | mk (l k xs) (_:x=.ref l) (_:y=.int k) (_:H l=some (.lst xs)) (_:-(2 ^ 63)≤k) (_:k<2 ^ 63) (_:xs.length*k.toNat≤sizeLine) (_:∀ p,H p=none→Q (.ref p) (upd H p (.lst (List.replicate k.toNat xs).flatten)))
theorem wo{α:Type}(xs:List α)(k:Nat):(List.replicate k xs).flatten.length=k*xs.length:=by
 induction k with
 | zero=>simp
 | succ k ih=>rw [X9,List.flatten_cons,YY,ih,Nat.succ_mul,Nat.add_comm]
theorem xS:OpR X (binaryOp .Mult) rRep:=by
 intro pins s σ H x y v u Q I rx ry h
 obtain⟨l,k,xs,rfl,rfl,hH,h1,h2,hz,q⟩:=h
 cases rx
 obtain⟨t,rfl⟩:=ry
 obtain⟨z,its,n,r,hl,e⟩:=I.lstM hH
 have hlen:its.toArray.size*k.toNat≤sizeLine:=by rw [YL,← hl]; exact hz
 have hcap:¬ its.toArray.size*k.toNat > (2 ^ 63-1) / 8:=by
  have : (sizeLine:Nat)≤(2 ^ 63-1) / 8:=by decide
  omega
 have hfit:¬ (!Builtin.List.listFitsIndex k)=true:=by
  rw [fitsIndex_both h1 h2]
  exact YN
 have hlong:¬ Builtin.List.listTooLong (its.toArray.size*k.toNat)=true:=by
  rw [tV hlen]
  exact YN
 have hnew:List.foldl (fun x1 x2=>x1++x2) #[] (List.replicate (if its.toArray.isEmpty=true then 0 else k.toNat) its.toArray)=(List.replicate k.toNat its).flatten.toArray:=by
  have f0:∀ m:Nat,List.foldl (fun x1 x2=>x1++x2) #[] (List.replicate m its.toArray)=(List.replicate m its).flatten.toArray:=fun m=>by
   have:=jV its m []
   rw [List.nil_append] at this
   exact this
  rw [f0]
  cases its with
  | nil=>simp
  | cons a r'=>rw [if_neg (by simp)]
 refine wpAny_binaryOp_repeat_ref (T:="list") (U:="int") (by decide) ⟨_,e,rfl⟩ (fun s'=>typeIs_int s' k t) noFill_list_mul F.fills_int_mul F.slot_int_rmul repeat_list F.slot_int_index.lookup
  (call_meets F.slot_int_rmul (typeIs_int s k t) F.entry_int_rmul (F.args_int_rmul_2 _ _) (int___rmul___int_list k t l its.toArray n)
   ⟨e,rfl,⟨_,e,rfl⟩,call_meets F.slot_list_mul ⟨_,e,rfl⟩ F.entry_list_mul (F.args_list_mul_2 _ _) (AutoListH.list___mul___list_int_3 l its.toArray n k t hfit hcap hlong) ⟨e,?_⟩⟩)
 rw [hnew]
 exact⟨.ref _,_,I.lnew (t':=s.toks) (r.rep k.toNat) (by rw [wo,Nat.mul_comm]; exact hz),rfl,q _ I.fresh⟩
end
section
variable{prog:Program}{w:World}{A:Around}{E:Value→Shared→Prop}{s:Shared}
end
section
variable{X:Cx}
end
end L2
namespace Att
open PySem PySem.W PySem.Calls PyProof.Rows
theorem iA{P:Params}{h:Heap}:∀ (ns:List Int) (vs:List Value),WellAll P h vs (ns.map WData.int)→IntsAre vs ns:=by
 intro ns
 induction ns with
 | nil=>
  intro vs w
  rw [List.map_nil] at w
  cases w
  exact .nil
 | cons n ns ih=>
  intro vs w
  rw [Y9] at w
  cases w with
  | cons a b=>
   cases a
   exact .cons _ _ (ih _ b)
theorem ql{l:OpenLaw}{n:Nat}(hn:l.most=some n){P:Params}{h:Heap}{args:List WData}{vals:List Value}
  (hpre:l.row.toRowW.claim.pre args=true) (hwl:WellAll P h vals args) :
  ∃ a vs ns,vals=[Value.ref a]∧args=[WData.list (ns.map WData.int)]∧h.get? a=some {cls:=.type "list",data:=.seq vs.toArray}∧IntsAre vs ns∧ns.length≤n:=by
 have hsh:WShape.hasAll [] args [.list .int]=true:=(pre_splitW hpre).1
 have hc:l.pre.holds [] {args:=args}=true:=(pre_splitW hpre).2
 obtain⟨d,r,rfl,h1,h2⟩:=hasAllW_cons hsh
 obtain rfl:=hasAllW_nil h2
 obtain⟨xs,rfl,h3⟩:=hasW_list h1
 obtain⟨ns,rfl⟩:=items_int h3
 have hlen:ns.length≤n:=by
  unfold OpenLaw.pre at hc
  have h4:(WTm.not (.lt (.lit (.int (n:Int))) (.len (.arg 0)))).holds [] {args:=[.list (ns.map .int)]}=true:=by
   have h4:=(holds_andW hc).1
   rw [hn] at h4
   exact h4
  have h5:=condW_of h4 (w_not (w_lt w_lit (w_len_list (w_arg rfl))))
  rw [YC] at h5
  refine Nat.le_of_not_lt fun q=>?_
  have q':(n:Int)<((ns.length:Nat):Int):=by omega
  first
   | (rw [decide_eq_true q'] at h5; exact absurd h5 (by decide))
   | (simp at h5; omega)
 cases hwl with
 | cons w1 w2=>
  cases w2
  cases w1 with
  | list ho hall=>exact⟨_,_,ns,rfl,rfl,ho,iA ns _ hall,hlen⟩
theorem qm(l:OpenLaw)(args:List WData):l.row.toRowW.claim.post args (.bool true) args=true:=
 postW_of (r:=l.row.toRowW) (X:=(true==true))
  (show WShape.has [] (.bool true) .bool=true by first | rfl | decide | simp [WShape.has,WShape.arms,WShape.armsAll])
  (show (WTm.eq .res (.lit (.bool true))).value [] {args:=args,res:=some (.bool true),after:=args}=some (.bool (true==true)) from w_eq_bool (w_res rfl) w_lit) rfl
theorem attach_call{l:OpenLaw}{n:Nat}{q:Program}{loose:List Str}{XP:(Str→Option Value)→Heap→Prop}{YP:World→Heap→Prop}{d:DefRec}
  (hn:l.most=some n) (hdf:d.params.defaults=[])
  (call:∀ (w:World) (s₀ s₁:Shared) (mg mb:Str→Option Value) (fa:Addr) (o:Obj) (pm cd doc:Value) (a:Addr) (vs:List Value) (ns:List Int),
   Ground q loose [] XP w s₀ mg mb s₁.heap→YP w s₁.heap→
   s₁.heap.get? fa=some o→o.data=.func (docDef d.name d.params d.body d.scope pm cd doc)→s₁.heap.CodeRec cd d.name→mg d.name=some (.ref fa)→
   s₁.heap.get? a=some {cls:=.type "list",data:=.seq vs.toArray}→IntsAre vs ns→ns.length≤n→s₁.gens=#[]→
   codeAny (model l.prog w) callerA (.call (.ref fa) ⟨[.ref a],[]⟩) (fun r s'=>r=.ok (.ret (.bool true))∧OldK s₁.heap s'.heap∧s'.os=s₁.os∧AllBare s'.gens) s₁) :
  WalkO q loose XP YP l.row.toRowW d [] (fun f vs=>PySem.call f vs):=by
 intro w s₀ s₁ mg mb G Y fa o pm cd doc dV kV ho hd hcd hD hmg hg args vals as hpre hlay hrd hwl hlo
 obtain rfl:dV=.none:=Dflts.none hD hdf
 obtain rfl:kV=.none:=Dflts.noKw hD
 obtain⟨a,vs,ns,rfl,rfl,hobj,hints,hlen⟩:=ql hn hpre hwl
 refine enter_call (codeAny_mono (call w s₀ s₁ mg mb fa o pm cd doc a vs ns G Y ho (fd_plain hd) hcd hmg hobj hints hlen hg) fun r s' hq=>?_)
 obtain⟨rfl,h2,h3,h4⟩:=hq
 exact⟨.inl ⟨.bool true,.bool true,[],rfl,fun _=>rfl,.bool true,qm l _,fun _=>⟨List.Pairwise.nil,fun _ hm=>(nomatch hm)⟩⟩,h2,h3,h4⟩
section
variable{prog:Program}{w:World}{A:Around}{E:Value→Shared→Prop}{s:Shared}{K:Frag}
end
end Att
namespace L2
open PySem PySem.Spec PyProof.Rows
theorem jC:∀ {vs:List Value} {ns:List Int},IntsAre vs ns→ax (ns.map V.int) vs
 | _,_,.nil=>.nil
 | _,_,.cons n t h=>.cons ⟨t,rfl⟩ (jC h)
def yM(H:Hp):Prop:=∀ b,H b=none∨∃ o xs,H b=some (.frz o (.lst xs))
theorem uj{P:Program}{w:World}{K:WB}{mg mb:Str→Option Value}{CX:CXT}{k:Nat}{fa a:Addr}{fd:FuncData}{x:Str}{sp:Sp}{s₁:Shared}{vs:List Value}{ns:List Int}
  (KX:K.In s₁.heap) (hns:s₁.heap.Ns mainGlobals mg) (hb:s₁.heap.Ns builtinsNs mb) (hbb:∀ x:Str,x≠"__name__"→mb x=bootBuiltins x) (hlim:s₁.heap.NoLimit) (hsys:∃ mm,s₁.heap.Ns sysModules mm) (hg:s₁.gens=#[])
  (ha:s₁.heap.get? a=some {cls:=.type "list",data:=.seq vs.toArray}) (hi:IntsAre vs ns) (hl:ns.length≤sizeLine) (hr:aO k callerA)
  (F:∀ base:Heap,K.In base→base.Ns mainGlobals mg→cC P w K mg base CX k fa fd [x] sp) (hbind:∀ (s:Shared) (u:Value),BindsTo s fd ⟨[u],[]⟩ [(x,u)])
  (hsp:∀ H:Hp,yM H→SqL K H a (ns.map V.int)→sp [.ref a] H (fun v _=>v=.bl true) fun _ _ _=>False)
  (hCX:∀ H e s',CX [] H s₁ (fun _ _ _=>False) e s'→False) :
  codeAny (model P w) callerA (.call (.ref fa) ⟨[.ref a],[]⟩) (fun r s'=>r=.ok (.ret (.bool true))∧OldK s₁.heap s'.heap∧s'.os=s₁.os∧AllBare s'.gens) s₁:=by
 have rv:=jC hi
 have lenV:=hi.length
 have core:∀ H:Hp,yM H→SqL K H a (ns.map V.int)→HOk P w H s₁.heap→(∀ b,H b≠none→b=a)→(H a≠none→K.lookup a=none)→
   codeAny (model P w) callerA (.call (.ref fa) ⟨[.ref a],[]⟩) (fun r s'=>r=.ok (.ret (.bool true))∧OldK s₁.heap s'.heap∧s'.os=s₁.os∧AllBare s'.gens) s₁:=by
  intro H hO hS hok hA hK
  have base_of:∀ {b:Addr} {o:Obj},s₁.heap.get? b=some o→H b=none→(kY s₁.heap H).get? b=some o:=fun e n=>ur e n
  have noA:∀ {b:Addr} {o:Obj} {es:Array DictEntry} {ep:Nat},s₁.heap.get? b=some o→o.data=.dict es ep→H b=none:=fun {b o es ep} e d=>by
   cases q:H b with
   | none=>rfl
   | some u=>
    have e':b=a:=hA b (by rw [q]; simp)
    subst e'
    rw [ha] at e; cases e
    have d':Data.seq vs.toArray _=Data.dict es ep:=d
    cases d'
  have nsK:∀ {b:Addr} {m:Str→Option Value},s₁.heap.Ns b m→(kY s₁.heap H).Ns b m:=fun {b m} ⟨o,es,ep,e,d,r⟩=>⟨o,es,ep,base_of e (noA e d),d,r⟩
  have hKb:K.In (kY s₁.heap H):=fun b o e=>base_of (KX b o e) (by
   cases q:H b with
   | none=>rfl
   | some u=>
    have e':b=a:=hA b (by rw [q]; simp)
    subst e'
    rw [hK (by rw [q]; simp)] at e; cases e)
  have hM:Mod K mg (kY s₁.heap H):=⟨hKb,nsK hns,⟨mb,nsK hb,hbb⟩,let ⟨mc,h1,h2⟩:=hlim; ⟨mc,nsK h1,h2⟩,let ⟨mm,h1⟩:=hsys; ⟨mm,nsK h1⟩⟩
  have e0:lx P w K mg (kY s₁.heap H) callerA [] s₁ H:=⟨rfl,hM,fun b o e=>vY e,Nat.le_of_eq (qK _ _),trivial,fun b hb=>absurd (show b∈([]:List Addr) from hb) (by simp),hok,.of_eq hg⟩
  refine codeAny_mono ((F _ hKb (nsK hns)).run callerA [] s₁ H ⟨[.ref a],[]⟩ [.ref a] [.ref a] _ _ hr e0 (hbind s₁ (.ref a)) (.cons rfl .nil) (hsp H hO hS)) fun r s' h=>?_
  cases r with
  | error e=>exact(hCX H e s' h).elim
  | ok fl=>
   cases fl with
   | next=>exact False.elim h
   | brk=>exact False.elim h
   | cont=>exact False.elim h
   | ret u=>
    obtain⟨v,H',os,bare,un,hok',r',q⟩:=h
    have q':v=.bl true:=q
    subst q'
    obtain rfl:u=Value.bool true:=r'
    refine⟨rfl,OldK.of_keep fun b o e=>?_,os,bare⟩
    cases q:H b with
    | none=>exact un.keep b o e q (by intro z; exact absurd (show b∈([]:List Addr) from z) (by simp)) (by simp)
    | some u=>
     rcases hO b with z | ⟨ob,xs,z⟩
     ·rw [q] at z; cases z
     ·have z2:=un.frzs b ob _ z
      obtain⟨e1,_⟩:=hok b _ z
      obtain⟨e2,_⟩:=hok' b _ z2
      rw [e] at e1; cases e1
      exact e2
 cases hk:K.lookup a with
 | some o=>
  have e:=KX a o hk
  rw [ha] at e
  cases e
  refine core (fun _=>none) (fun _=>.inl rfl) (.inr ⟨_,vs.toArray,_,hk,rfl,rfl,rfl,by rw [YL,lenV]; exact hl,by simpa using rv⟩) (fun b u z=>by have z':(none:Option HO)=some u:=z; cases z') (fun b z=>absurd rfl z) fun z=>absurd rfl z
 | none=>
  refine core (fun b=>if b=a then some (.frz {cls:=.type "list",data:=.seq vs.toArray} (.lst (ns.map V.int))) else none) (fun b=>?_) (.inl (.inr ⟨{cls:=.type "list",data:=.seq vs.toArray},if_pos rfl⟩)) (fun b u z=>?_) (fun b z=>?_) fun _=>hk
  ·by_cases hb:b=a
   ·exact .inr ⟨_,_,if_pos hb⟩
   ·exact .inl (if_neg hb)
  ·by_cases hb:b=a
   ·have z':=(if_pos hb).symm.trans z
    cases z'
    subst hb
    exact⟨ha,by rw [YC]; exact hl,vs,_,rv,ha⟩
   ·have z':=(if_neg hb).symm.trans z
    cases z'
  ·by_cases hb:b=a
   ·exact hb
   ·exact absurd (if_neg hb) z
theorem walk_of{l:PySem.W.OpenLaw}{n k:Nat}{q:Program}{loose:List Str}{XP:(Str→Option Value)→Heap→Prop}{YP:World→Heap→Prop}{d:DefRec}{K:Params→WB}{CX:World→CXT}{sp:World→Sp}{x:Str}
  (hn:l.most=some n) (hn2:n≤sizeLine) (hdf:d.params.defaults=[]) (hr:aO k callerA) (hq:importsNone q=true)
  (hY:∀ (w:World) (h:Heap),YP w h→(K w.params).In h)
  (F:∀ (w:World) (mg:Str→Option Value) (fa:Addr) (h:Heap),(K w.params).In h→h.Ns mainGlobals mg→mg d.name=some (.ref fa)→
   ∃ fd:FuncData,(∀ (s:Shared) (u:Value),BindsTo s fd ⟨[u],[]⟩ [(x,u)])∧
    ∀ base:Heap,(K w.params).In base→base.Ns mainGlobals mg→cC l.prog w (K w.params) mg base (CX w) k fa fd [x] (sp w))
  (hsp:∀ (w:World) (H:Hp) (a:Addr) (ns:List Int),ns.length≤n→yM H→SqL (K w.params) H a (ns.map V.int)→sp w [.ref a] H (fun v _=>v=.bl true) fun _ _ _=>False)
  (hCX:∀ (w:World) (H:Hp) (s:Shared) (e:Value) (s':Shared),CX w [] H s (fun _ _ _=>False) e s'→False) :
  PySem.W.WalkO q loose XP YP l.row.toRowW d [] (fun f vs=>PySem.call f vs):=by
 refine Att.attach_call hn hdf fun w s₀ s₁ mg mb fa o pm cd doc a vs ns G Y ho hd hcd hmg hobj hints hlen hg=>?_
 have KX:=hY w _ Y
 obtain⟨fd,hb,hF⟩:=F w mg fa _ KX G.T.g hmg
 exact uj KX G.T.g G.T.b G.T.builtins G.T.nolimit (let ⟨mm,x,_⟩:=(G.T.seer hq).mods; ⟨mm,x⟩) hg hobj hints (YE hlen hn2) hr hF hb (fun H hO hS=>hsp w H a ns hlen hO hS) fun H e s'=>hCX w H s₁ e s'
def em(s:Stmt)(j:Nat):Stmt:=match s with
 | .ClassDef _ _ _ body _ _ _ _ _ _ _=>body.getD j (.Pass ⟨0,0,0,0⟩)
 | _=>.Pass ⟨0,0,0,0⟩
def cK(s:Stmt):Arguments:=match s with
 | .FunctionDef _ a _ _ _ _ _ _ _ _=>a
 | _=>{posonlyargs:=[],args:=[],vararg:=none,kwonlyargs:=[],kw_defaults:=[],kwarg:=none,defaults:=[]}
def bD(s:Stmt):List Stmt:=match s with
 | .FunctionDef _ _ b _ _ _ _ _ _ _=>b
 | _=>[]
def ag(s:Stmt):Scope:=match s with
 | .FunctionDef _ _ _ _ _ _ sc _ _ _=>sc
 | _=>{kind:=.function,names:=[],isGenerator:=false,isCoroutine:=false}
abbrev CX0:CXT:=fun _ _ _ _ _ _=>False
abbrev E0:XK:=fun _ _ _=>False
theorem lR{X:Cx}:gi CX0 X E0:=fun _ _ _ _ _ _ _ h=>h.elim
structure Fun(K:WB)(x qual:Str)(st:Stmt)(f:Addr)(fd:FuncData):Prop where
 ex:∃ (oc:Value) (od:Option Addr) (kV doc pm:Value) (an:Option Addr) (cdv ct:Value) (osl:Array (Option Value)),
  fd=PySem.W.fnOf x qual (cK st) (bD st) (ag st) .none kV doc pm an cdv ct∧K.lookup f=some ⟨oc,od,.func fd,osl⟩∧PySem.W.codeIn K cdv qual=true
 kp:PySem.W.keepIn K (.ref f)=true
section
variable{P:Program}{w:World}{K:WB}{mg:Str→Option Value}{base:Heap}
theorem Fun.ok{x qual:Str}{st:Stmt}{f:Addr}{fd:FuncData}{N ps:List Str}{k:Nat}{sp:Sp}(F:Fun K x qual st f fd)(S:ai N ps (ag st))(len:∀ vs H Q E,sp vs H Q E→vs.length=ps.length)
  (hbody:∀ (cdv:Value) (A:Around) (outer:List Env) (s:Shared) (H:Hp) (vs:List V) (Q:VK) (E:XK),aO k (A.deeper (envOfC qual (ag st) s.heap.objs.size f cdv))→sp vs H Q E→
   ∃ t,PSs (jx CX0 P w K mg base N qual (ag st) f cdv A outer s H E).nox (bD st) t∧t {nx:=fun _ H'=>Q .non H',rt:=Q} (cq N vs) H):cC P w K mg base CX0 (k+1) f fd ps sp:=by
 obtain⟨oc,od,kV,doc,pm,an,cdv,ct,osl,rfl,lk,hcd⟩:=F.ex
 refine xf lk hcd S len fun A outer s H vs Q E hr hsp=>?_
 obtain⟨t,h,q⟩:=hbody cdv A outer s H vs Q E hr hsp
 exact⟨t,h.nox,q⟩
theorem Fun.binds{x qual:Str}{st:Stmt}{f:Addr}{fd:FuncData}{ps:List Str}(F:Fun K x qual st f fd)
  (h:∀ (kV doc pm:Value) (an:Option Addr) (cdv ct:Value) (us:List Value),us.length=ps.length→bindArgs (PySem.W.fnOf x qual (cK st) (bD st) (ag st) .none kV doc pm an cdv ct) ⟨us,[]⟩=pure (ps.zip us)):ce K fd ps []:=by
 obtain⟨oc,od,kV,doc,pm,an,cdv,ct,osl,rfl,lk,hcd⟩:=F.ex
 exact .all (h kV doc pm an cdv ct)
theorem jk{x qual:Str}{st:Stmt}{f:Addr}{oc:Value}{od an:Option Addr}{osl:Array (Option Value)}{kV doc pm cdv ct:Value}(l:K.lookup f=some ⟨oc,od,.func (PySem.W.fnOf x qual (cK st) (bD st) (ag st) .none kV doc pm an cdv ct),osl⟩)
  (c:PySem.W.codeIn K cdv qual=true) (k:PySem.W.keepIn K (.ref f)=true):Fun K x qual st f (PySem.W.fnOf x qual (cK st) (bD st) (ag st) .none kV doc pm an cdv ct):=⟨⟨oc,od,kV,doc,pm,an,cdv,ct,osl,rfl,l,c⟩,k⟩
end
theorem eE{A:Around}{k:Nat}(hr:aO k A):A.units+1<cLine:=Xz (Nat.add_le_add_left (by decide:1≤64) _) hr.units
section
variable{X:Cx}
end
theorem dz{A B:Prop}(h:B):if false=true then A else B:=by
 rw [if_neg YN]
 exact h
theorem wq{A B:Prop}(h:A):if true=true then A else B:=by
 rw [if_pos rfl]
 exact h
theorem yw{c A B:Prop}[Decidable c](h1:c→A)(h2:¬ c→B):if c then A else B:=by
 by_cases h:c
 ·rw [if_pos h]
  exact h1 h
 ·rw [if_neg h]
  exact h2 h
def al(H H':Hp):Prop:=∀ b o,H b=some o→H' b=some o
theorem al.refl(H:Hp):al H H:=fun _ _ h=>h
theorem al.trans{H H1 H2:Hp}(a:al H H1)(b:al H1 H2):al H H2:=fun c o h=>b c o (a c o h)
theorem al.seq{K:WB}{H H':Hp}{a:Addr}{xs:List V}(e:al H H')(h:SqL K H a xs):SqL K H' a xs:=by
 rcases h with (h | ⟨o,h⟩) | h
 ·exact .inl (.inl (e _ _ h))
 ·exact .inl (.inr ⟨o,e _ _ h⟩)
 ·exact .inr h
end L2
set_option maxHeartbeats 4000000
namespace L2
open PySem PySem.Spec PyProof.Rows
theorem cR{prog:Program}{w:World}{A:Around}{R:Result→Shared→Prop}{s:Shared}{elt target iter:Expr}{scope:Scope}{pos:Pos}{it acc:Value}{env:Env}(I:Nat→Shared→Prop)
  (turn:∀ n s,I n s→wpAny (model prog w) A (pyNext it) (fun r s1=>match r with
   | none=>R (.ok .next) s1
   | some v=>wpAny (model prog w) A (letOwnedTupleGo target it v) (fun _ s1'=>wpAny (model prog w) A (assign target env v) (fun _ s2=>
     wpAny (model prog w) A (eval elt env) (fun x s4=>
       wpAny (model prog w) A (call (.builtin "list.append") [acc,x]) (fun _ s5=>∃ m,m<n∧I m s5) (notedBy (model prog w) A env fun e s'=>R (.error e) s') s4) (notedBy (model prog w) A env fun e s'=>R (.error e) s') s2)
     (notedBy (model prog w) A env fun e s'=>R (.error e) s') s1') (notedBy (model prog w) A env fun e s'=>R (.error e) s') s1) (notedBy (model prog w) A env fun e s'=>R (.error e) s') s)
  (n:Nat) (h:I n s):codeAny (model prog w) A (.compLoop (.ListComp elt [⟨target,iter,[],0⟩] scope pos) 0 it acc env) R s:=by
 refine codeAny_loop rfl I (fun n s hI=>?_) n h
 show wpAny _ A ((compTurn (.ListComp elt [⟨target,iter,[],0⟩] scope pos) 0 it acc env).onRaise (fun x=>do noteFrame x env; theTreesLotGoes x)) _ _ s
 refine wpAny_noted ?_
 rw [compTurn_list]
 refine Yz (wpAny_standAt (Yz (YH (turn n s hI) (fun r s1 h1=>?_) fun _ _ h'=>h')))
 cases r with
 | none=>exact YB h1
 | some v=>
  refine Yz (YH h1 (fun _ s1' h1'=>?_) fun _ _ h'=>h')
  refine Yz (YH h1' (fun _ s2 h2=>Yz (YH (wpAny_tests_nil (Q:=fun ok s3=>ok=true∧s3=s2) ⟨rfl,rfl⟩) (fun ok s3 h3=>?_) fun _ _ h'=>h')) fun _ _ h'=>h')
  obtain⟨rfl,rfl⟩:=h3
  exact Yz (Yz (YH h2 (fun x s4 h4=>Yz (YH h4 (fun _ s5 h5=>YB (YB ⟨rfl,h5⟩)) fun _ _ h'=>h')) fun _ _ h'=>h'))
theorem bR{env:Env}:∀ {names:List (Str×NameKind)} {x:Str},
  (names.map fun (n,k)=>if (k==NameKind.free&&env.scope.kind==.function&&env.kindOf n==some .cell) then (n,NameKind.cell) else (n,k)).lookup x =
   (names.lookup x).map fun k=>if (k==NameKind.free&&env.scope.kind==.function&&env.kindOf x==some .cell) then NameKind.cell else k
 | [],_=>rfl
 | (n,k)::r,x=>by
  have ih:=@bR env r x
  show List.lookup x ((if (k==NameKind.free&&env.scope.kind==.function&&env.kindOf n==some .cell)=true then (n,NameKind.cell) else (n,k))::_)=_
  cases hx:x==n with
  | true=>
   have e:x=n:=eq_of_beq hx
   subst e
   by_cases hc:(k==NameKind.free&&env.scope.kind==.function&&env.kindOf x==some .cell)=true
   ·rw [if_pos hc]; simp only [XQ,hx,XM,hc,if_true]
   ·rw [if_neg hc]; simp only [XQ,hx,XM,hc]; rfl
  | false=>
   by_cases hc:(k==NameKind.free&&env.scope.kind==.function&&env.kindOf n==some .cell)=true
   ·rw [if_pos hc]; simp only [XQ,hx]; exact ih
   ·rw [if_neg hc]; simp only [XQ,hx]; exact ih
def ui(n:Nat)(N' N:List Str)(names:List (Str×NameKind)):Bool:=
 (List.range N.length).all fun i=>match N'[n+i]? with
  | none=>true
  | some x=>(names.lookup x==some .free&&N[i]? == some x) || !(names.lookup x==some .local||names.lookup x==some .cell||names.lookup x==some .free)
structure aK(n:Nat)(N':List Str)(X:Cx)(scope:Scope):Prop where
 kind:scope.kind=.function
 names:∀ x∈scope.names,x.2=.local→scope.names.lookup x.1=some .local
 cell:∀ x∈scope.names,x.2≠.cell
 free:∀ x∈scope.names,x.2=.free→X.env.kindOf x.1=some .cell∨X.env.kindOf x.1=some .free
 nd:N'.Nodup
 len:N'.length=n+X.N.length
 look:ui n N' X.N scope.names=true
theorem dw{scope:Scope}{env:Env}(hh:∀ x∈scope.names,x.2=.free→∃ c,env.cells.lookup x.1=some c):
  ∃ cl,closureFor scope env=pure cl∧(∀ x c,cl.lookup x=some c→env.cells.lookup x=some c)∧∀ x∈scope.names,x.2=.free→∃ c,cl.lookup x.1=some c:=by
 have all:∀ (l:List (Str×NameKind)) (cs:List (Str×Addr)),(∀ x∈l,x.2=.free→∃ c,env.cells.lookup x.1=some c)→(∀ x c,cs.lookup x=some c→env.cells.lookup x=some c)→
   ∃ cl,(forIn l cs fun (x:Str×NameKind) r=>if x.2==NameKind.free then (do let a ← cellOf env x.1; pure (ForInStep.yield ((x.1,a)::r))) else pure (ForInStep.yield r):Sem (List (Str×Addr)))=pure cl∧
    (∀ x c,cl.lookup x=some c→env.cells.lookup x=some c)∧(∀ x∈l,x.2=.free→∃ c,cl.lookup x.1=some c)∧∀ x,(∃ c,cs.lookup x=some c)→∃ c,cl.lookup x=some c:=by
  intro l
  induction l with
  | nil=>intro cs _ h; exact⟨cs,rfl,h,(fun _ h=>nomatch h),fun _ h=>h⟩
  | cons y r ih=>
   intro cs hf h
   obtain⟨n,k⟩:=y
   by_cases hk:k=.free
   ·subst hk
    obtain⟨a,ha⟩:=hf (n,.free) YX rfl
    have h':∀ x c,List.lookup x ((n,a)::cs)=some c→env.cells.lookup x=some c:=fun x c e=>by
     cases hx:x==n with
     | true=>
      simp only [XQ,hx] at e
      have q:x=n:=eq_of_beq hx
      subst q
      rw [ha]; exact e
     | false=>
      simp only [XQ,hx] at e
      exact h x c e
    obtain⟨cl,e1,e2,e3,e4⟩:=ih ((n,a)::cs) (fun x hx=>hf x (Y0 _ hx)) h'
    refine⟨cl,?_,e2,fun x hx hxf=>?_,fun x hx=>?_⟩
    ·rw [List.forIn_cons]
     have e5:cellOf env n=pure a:=by unfold cellOf; rw [ha]
     simp only [beq_self_eq_true,if_true,e5,pure_bind]
     exact e1
    ·rcases YM.mp hx with rfl | hx
     ·exact e4 _ ⟨a,by simp [XQ]⟩
     ·exact e3 x hx hxf
    ·obtain⟨c,hc⟩:=hx
     refine e4 x ?_
     cases hx:x==n with
     | true=>exact⟨a,by simp only [XQ,hx]⟩
     | false=>exact⟨c,by simp only [XQ,hx]; exact hc⟩
   ·obtain⟨cl,e1,e2,e3,e4⟩:=ih cs (fun x hx=>hf x (Y0 _ hx)) h
    refine⟨cl,?_,e2,fun x hx hxf=>?_,e4⟩
    ·rw [List.forIn_cons]
     have : (k==NameKind.free)=false:=by simpa using hk
     simp only [this,XF,if_false,pure_bind]
     exact e1
    ·rcases YM.mp hx with rfl | hx
     ·exact absurd hxf hk
     ·exact e3 x hx hxf
 obtain⟨cl,e1,e2,e3,_⟩:=all scope.names [] hh (fun _ _ h=>nomatch h)
 refine⟨cl,?_,e2,e3⟩
 unfold closureFor
 refine Eq.trans (b:=(pure cl>>=fun cs=>pure cs)) ?_ rfl
 refine Eq.trans ?_ (congrArg (fun (m:Sem (List (Str×Addr)))=>m>>=fun cs=>pure cs) e1)
 rfl
def ak(X:Cx)(N':List Str)(scope:Scope)(cl:List (Str×Addr))(C:Addr)(ex:List Addr)(s:Shared)(H:Hp):Cx:=
 {X with N:=N',s₀:=s,H₀:=H,env:=compEnvC scope cl C X.env,outer:=X.stack,ex:=ex,fn:=fun _=>false,pn:=[]}
section
variable{X:Cx}{n:Nat}{N':List Str}{scope:Scope}{elt tg iter:Expr}{pos:Pos}{pins:List (Addr×Obj)}{σ:St}{H2:Hp}{s2:Shared}{cl:List (Str×Addr)}
def bK(X:Cx)(pins:List (Addr×Obj))(σ:St)(Q:VK)(acc:Value)(C:Addr)(s':Shared):Prop:=
 ∃ (D:Addr) (H':Hp) (m:Str→Option Value),acc=.ref D∧Inv X pins σ H' s'∧s'.heap.Ns C m∧d3 X pins H' C∧Q (.ref D) H'
theorem jo{C D:Addr}{fp:List Addr}{s':Shared}{us:List Value}{k:Nat}(S:aK n N' X scope)(c1:∀ x c,cl.lookup x=some c→X.env.cells.lookup x=some c)(c2:∀ x∈scope.names,x.2=.free→∃ c,cl.lookup x.1=some c)
  (I2:Inv X pins σ H2 s2) (f2:∀ b∈fp,d3 X pins H2 b) (fl:∀ b∈fp,@LT.lt Nat _ b s2.heap.objs.size) (hD:@Eq Nat D s2.heap.objs.size) (hC:@Eq Nat C (s2.heap.objs.size+1))
  (ho:s'.os=s2.os) (hg:s'.gens=s2.gens) (old:∀ b o,s2.heap.get? b=some o→s'.heap.get? b=some o) (hns:∃ m,s'.heap.Ns C m) (hd:s'.heap.get? D=some {cls:=.type "list",data:=.seq us.toArray k}) :
  Inv (ak X N' scope cl C fp s2 H2) [(D,{cls:=.type "list",data:=.seq us.toArray k})] (List.replicate n none++σ) H2 s':=by
 have frl:∀ b∈frs X.stack,@LT.lt Nat _ b s2.heap.objs.size:=fun b hb=>by
  obtain⟨_,o,ho,_⟩:=I2.stack.mem hb
  exact YF ho
 have celll:∀ x c,cl.lookup x=some c→c<s2.heap.objs.size:=fun x c e=>by
  obtain⟨v,q⟩:=I2.cell x c (c1 x c e)
  exact q.lt
 have kOf:∀ x,(ak X N' scope cl C fp s2 H2).env.kindOf x=(scope.names.lookup x).map fun k=>if (k==NameKind.free&&X.env.scope.kind==.function&&X.env.kindOf x==some .cell) then NameKind.cell else k:=fun x=>bR
 have kfree:∀ x,((ak X N' scope cl C fp s2 H2).env.kindOf x=some .cell∨(ak X N' scope cl C fp s2 H2).env.kindOf x=some .free)→scope.names.lookup x=some .free:=fun x hx=>by
  rw [kOf x] at hx
  cases e:scope.names.lookup x with
  | none=>rw [e] at hx; rcases hx with hx | hx <;> cases hx
  | some kd=>
   rw [e] at hx
   cases kd with
   | free=>rfl
   | «local»=>rcases hx with hx | hx <;> (simp at hx)
   | cell=>exact absurd rfl (S.cell _ (PySem.mem_of_lookup e))
   | globalExplicit=>rcases hx with hx | hx <;> (simp at hx)
   | globalImplicit=>rcases hx with hx | hx <;> (simp at hx)
 have hasC:∀ x,scope.names.lookup x=some .free→∃ c,cl.lookup x=some c:=fun x hx=>c2 _ (PySem.mem_of_lookup hx) rfl
 have hH:∀ a,s2.heap.objs.size≤a→H2 a=none:=fun a ha=>I2.hok.fresh ha
 have ok:(ak X N' scope cl C fp s2 H2).Ok:=by
  refine⟨I2.ok.mod,S.kind,I2.ok.glob,I2.ok.blt,?_,fun x y c h1 h2=>?_,fun x hx=>hasC x (kfree x hx),fun x c h=>absurd h (by show ¬ (false=true); decide),I2.ok.hd,I2.ok.frames,.inl rfl,fun b hb=>?_,I2.bs,YE I2.ok.bsz I2.sz,fun b o e hb=>?_,fun b hb z=>?_,I2.stack,I2.stkFree⟩
  ·show s2.heap.objs.size≤C
   omega
  ·exact I2.ok.inj x y c (c1 x c h1) (c1 y c h2)
  ·have:=fl b hb
   refine⟨by show @Ne Nat b C; omega,fun x c e z=>?_⟩
   exact(f2 b hb).2.2.2.2.1 x c (c1 x c e) z
  ·obtain⟨f0,f1,ff,f3,_⟩:=f2 b hb
   rcases f3 with z | z
   ·exact I2.ok.noex b o e z
   ·have q1:@LT.lt Nat _ b X.base.objs.size:=YF e
    have q2:=I2.ok.bsz
    have q3:@LE.le Nat _ X.s₀.heap.objs.size b:=z
    omega
  ·obtain⟨f0,f1,ff,_⟩:=f2 b hb
   exact(YM.mp (I2.stkSub b z)).elim f1 ff
 refine⟨ok,ho,by rw [hg]; exact I2.bare,Un.kept old,?_,fun x c e=>?_,?_,fun x c e=>?_,fun p hp=>?_,I2.hok.kept old,?_⟩
 ·obtain⟨m,hn⟩:=hns
  refine⟨m,hn,fun i x v e1 e2 e3=>?_⟩
  have e2':(List.replicate n (none:Option V)++σ)[i]? = some (some v):=e2
  have e1':N'[i]? = some x:=e1
  by_cases hi:i<n
  ·rw [X5 (by simpa using hi),List.getElem?_replicate] at e2'
   split at e2' <;> cases e2'
  ·obtain⟨j,rfl⟩:∃ j,i=n+j:=⟨i-n,by omega⟩
   rw [X0 (by simp)] at e2'
   simp only [XO,Nat.add_sub_cancel_left] at e2'
   have hj:j<X.N.length:=by rw [← I2.len]; exact(YV.mp e2').1
   have lk:=XN.mp S.look j (List.mem_range.mpr hj)
   rw [e1'] at lk
   have vis:scope.names.lookup x=some .local∨scope.names.lookup x=some .cell∨scope.names.lookup x=some .free:=by
    have e3':(ak X N' scope cl C fp s2 H2).env.kindOf x=some .local∨(ak X N' scope cl C fp s2 H2).env.kindOf x=some .cell∨(ak X N' scope cl C fp s2 H2).env.kindOf x=some .free:=e3
    rcases e3' with z | z | z
    ·rw [kOf x] at z
     cases e:scope.names.lookup x with
     | none=>rw [e] at z; cases z
     | some kd=>
      rw [e] at z
      simp only [XM] at z
      split at z
      ·cases z
      ·cases z; exact .inl rfl
    ·exact .inr (.inr (kfree x (.inl z)))
    ·exact .inr (.inr (kfree x (.inr z)))
   have lk2:scope.names.lookup x=some .free∧X.N[j]? = some x:=by
    simp only [Bool.or_eq_true,YW,Bool.not_eq_true',Bool.or_eq_false_iff,beq_iff_eq,beq_eq_false_iff_ne] at lk
    rcases lk with z | z
    ·exact z
    ·rcases vis with q | q | q
     ·exact absurd q z.1.1
     ·exact absurd q z.1.2
     ·exact absurd q z.2
   obtain⟨m0,hn0,hl0⟩:=I2.loc
   have vX:Vis X.env.scope x:=by
    rcases S.free _ (PySem.mem_of_lookup lk2.1) rfl with z | z
    ·exact .inr (.inl z)
    ·exact .inr (.inr z)
   obtain⟨u,r,l⟩:=hl0 j x v lk2.2 e2' vX
   refine⟨u,r,.inr ⟨?_,?_⟩⟩
   ·rw [kOf x,lk2.1]
    simp only [XM]
    split
    ·exact .inl rfl
    ·exact .inr rfl
   ·obtain⟨c,hc⟩:=hasC x lk2.1
    refine⟨c,hc,?_⟩
    rcases l with ⟨kl,_⟩ | ⟨_,c',hc',z⟩
    ·rcases S.free _ (PySem.mem_of_lookup lk2.1) rfl with q | q <;> (rw [kl] at q; cases q)
    ·have:=c1 x c hc
     rw [hc'] at this; cases this
     obtain⟨oc,hoc,hdc⟩:=z
     exact⟨oc,old _ _ hoc,hdc⟩
 ·obtain⟨v,oc,hoc,hdc⟩:=I2.cell x c (c1 x c e)
  exact⟨v,oc,old _ _ hoc,hdc⟩
 ·exact hH C (by omega)
 ·exact I2.freeC x c (c1 x c e)
 ·have e:p=(D,{cls:=.type "list",data:=.seq us.toArray k}):=by simpa [ak] using hp
  subst e
  refine⟨hd,hH D (by omega),by show @Ne Nat D C; omega,fun z=>?_,fun v z=>by cases z⟩
  have:=frl D z
  omega
 ·show (List.replicate n none++σ).length=N'.length
  rw [YY,XO,S.len,I2.len]
def gj(n:Nat)(J:It)(g:TG)(te:TE)(σ:St)(H:Hp)(Q:VK):Prop:=
 ∃ W:Nat→Nat→List V→St→Hp→Prop,(∃ m,W 0 m [] (List.replicate n none++σ) H)∧∀ i m ys σ' H,W i m ys σ' H→
  (J.stop i H∧∀ D,H D=none→Q (.ref D) (upd H D (.lst ys)))∨
  (J.go i H∧ys.length<sizeLine∧∀ x H',J.yld i H x H'→g x σ' H' fun σ2 H2=>∃ N:VK,te σ2 H2 N∧∀ v H3,N v H3→∃ m',m'<m∧W (i+1) m' (ys++[v]) σ2 H3)
abbrev ay(α:Type):=List (Str×Addr)→Addr→List Addr→Shared→Hp→α
def rO(n:Nat)(wi:TI)(g:ay TG)(te:ay TE):TE:=fun σ H Q=>wi σ H fun J H1=>∀ cl C ex s Hc,gj n J (g cl C ex s Hc) (te cl C ex s Hc) σ H1 Q
theorem jp{it:Addr}{fp:List Addr}{tn:Nat→Heap→Prop}{J:It}{g:ay TG}{te:ay TE}{Q:VK}{E:Value→Shared→Prop}
  (hE:∀ v s,¬ X.xe v s) (hc:X.calm=true) (S:aK n N' X scope) (c1:∀ x c,cl.lookup x=some c→X.env.cells.lookup x=some c) (c2:∀ x∈scope.names,x.2=.free→∃ c,cl.lookup x.1=some c)
  (I2:Inv X pins σ H2 s2) (T:jt X.prog X.w X.K tg J fp it tn) (st2:tn 0 s2.heap) (f2:∀ b∈fp,d3 X pins H2 b)
  (hg:∀ cl C ex s H,PG (ak X N' scope cl C ex s H) tg (g cl C ex s H)) (he:∀ cl C ex s H,PE (ak X N' scope cl C ex s H) elt (te cl C ex s H))
  (cok:∀ cl C ex s Hc,gj n J (g cl C ex s Hc) (te cl C ex s Hc) σ H2 Q) :
  wpAny (model X.prog X.w) X.A (newList []) (fun acc s3=>wpAny (model X.prog X.w) X.A (newFunctionEnv scope X.env.globals cl [] X.env.qual none .none (some X.env)) (fun cenv s4=>
   codeAny (model X.prog X.w) X.A (.compStart (.ListComp elt [⟨tg,iter,[],0⟩] scope pos) 0 (.ref it) acc {cenv with scope:=relabel scope X.env})
    (fun r s'=>match r with | .ok _=>bK X pins σ Q acc cenv.locals s' | .error _=>False) s4) E s3) E s2:=by
 have fl:∀ b∈fp,@LT.lt Nat _ b s2.heap.objs.size:=fun b hb=>by
  obtain⟨o,e,_⟩:=T.obj _ _ st2 b hb
  exact YF e
 have frl:∀ b∈frs X.stack,@LT.lt Nat _ b s2.heap.objs.size:=fun b hb=>by
  obtain⟨_,o,ho,_⟩:=I2.stack.mem hb
  exact YF ho
 have celll:∀ x c,X.env.cells.lookup x=some c→@LT.lt Nat _ c s2.heap.objs.size:=fun x c e=>by
  obtain⟨v,q⟩:=I2.cell x c e
  exact q.lt
 refine wpAny_newObj_type (wpAny_newFunctionEnv S.cell (by intro y hy; simp at hy) (fun h1 hns1 hsb1=>?_) S.kind)
 dsimp only at hns1 hsb1 ⊢
 generalize hH2:s2.heap.push {cls:=.type "list",dict:=none,data:=.seq ([]:List Value).toArray}=G at hns1 hsb1 ⊢
 have hC:@Eq Nat G.objs.size (s2.heap.objs.size+1):=by rw [← hH2,XD]
 have hDC:s2.heap.objs.size≠G.objs.size:=by show @Ne Nat _ _; omega
 have below:∀ b,@LT.lt Nat _ b s2.heap.objs.size→b≠G.objs.size∧b≠s2.heap.objs.size:=fun b hb=>⟨by show @Ne Nat _ _; omega,YT hb⟩
 have old:∀ b o,s2.heap.get? b=some o→h1.get? b=some o:=fun b o e=>hsb1.extBut b o (below b (YF e)).1 (YA _ (hH2▸YA _ e))
 have hacc:h1.get? s2.heap.objs.size=some {cls:=.type "list",data:=.seq ([]:List Value).toArray 0}:=hsb1.extBut _ _ hDC (YA _ (hH2▸YJ _ rfl))
 have hst1:tn 0 h1:=T.keep _ _ _ st2 fun b hb o e=>old b o e
 let X':=ak X N' scope cl G.objs.size fp s2 H2
 obtain⟨W,⟨m0,w0⟩,turn⟩:=cok cl G.objs.size fp s2 H2
 have hXe:X'.xe=X.xe:=rfl
 have stat:∀ {H':Hp} {ps:List (Addr×Obj)},(∀ b∈fp,H' b=none)→(∀ p∈ps,p.1=s2.heap.objs.size)→∀ b∈fp,d3 X' ps H' b:=fun {H' ps} hn hp b hb=>by
  obtain⟨f0,f1,ff,f3,f4,f5⟩:=f2 b hb
  refine⟨hn b hb,(below b (fl b hb)).1,fun z=>?_,.inl hb,fun x c e z=>?_,fun p hp' z=>?_⟩
  ·exact(YM.mp (I2.stkSub b z)).elim f1 ff
  ·exact f4 x c (c1 x c e) z
  ·have e:p.1=s2.heap.objs.size:=hp p (by simpa [X',ak] using hp')
   exact(below b (fl b hb)).2 (z.symm.trans e)
 have loop:∀ s3:Shared,s3={s2 with heap:=h1,toks:=s2.toks+([]:List (Str×Value)).length}→
   codeAny (model X.prog X.w) X.A (.compLoop (.ListComp elt [⟨tg,iter,[],0⟩] scope pos) 0 (.ref it) (.ref s2.heap.objs.size) (compEnvC scope cl G.objs.size X.env))
    (fun r s'=>match r with | .ok _=>bK X pins σ Q (.ref s2.heap.objs.size) G.objs.size s' | .error _=>False) s3:=by
  rintro s3 rfl
  have I3:=jo (us:=[]) (k:=0) (s':={s2 with heap:=h1,toks:=s2.toks+([]:List (Str×Value)).length}) S c1 c2 I2 f2 fl rfl hC rfl rfl old ⟨_,hns1⟩ hacc
  refine cR (fun m s'=>∃ i ys us k σ' H',Inv X' [(s2.heap.objs.size,{cls:=.type "list",data:=.seq (us:List Value).toArray k})] σ' H' s'∧ax ys us∧tn i s'.heap∧(∀ b∈fp,H' b=none)∧ys.length≤sizeLine∧W i m ys σ' H') ?_ m0
   ⟨0,[],[],0,_,H2,I3,.nil,hst1,fun b hb=>(f2 b hb).1,YO _,w0⟩
  rintro m s' ⟨i,ys,us,k,σ',H',I',rv,st',fr',hlen,w'⟩
  rcases turn i m ys σ' H' w' with ⟨stop,q⟩ | ⟨go,hlt,step⟩
  ·refine thn (T.done X' rfl rfl rfl hc i _ s' σ' H' _ I' (stat fr' (by simp)) st' stop) fun r s4 ⟨hr,I4⟩=>?_
   subst hr
   show bK X pins σ Q (.ref s2.heap.objs.size) G.objs.size s4
   obtain⟨m1,hn1,_⟩:=I4.loc
   obtain⟨pD,nD,_,_,_⟩:=I4.pin (s2.heap.objs.size,{cls:=.type "list",data:=.seq us.toArray k}) (YI _ (by simp))
   have nD:H' s2.heap.objs.size=none:=nD
   have pD:s4.heap.get? s2.heap.objs.size=some {cls:=.type "list",data:=.seq us.toArray k}:=pD
   have hok:HOk X.prog X.w (upd H' s2.heap.objs.size (.lst ys)) s4.heap:=fun b u e=>by
    by_cases hb:b=s2.heap.objs.size
    ·subst hb
     rw [aa] at e; cases e
     exact⟨hlen,us,k,rv,pD⟩
    ·rw [ae hb] at e
     exact(I4.hok b u e).stay (fun _ _ _ q=>q) (fun c q=>by rw [ae (af q nD)]; exact q) fun c xs q=>by rw [ae (af q nD)]; exact q
   have un:Un (frs X.stack) fp H2 (upd H' s2.heap.objs.size (.lst ys)) s2.heap s4.heap:=by
    have u0:=I4.base
    refine⟨u0.keep,u0.slot,fun b o e n hx=>?_,u0.there,fun b xs e=>?_,fun b o xs e=>?_,fun b ps e=>?_⟩
    ·rw [ae (below b (YF e)).2]; exact u0.free b o e n hx
    ·have q:=u0.tups b xs e
     rw [ae (af q nD)]; exact q
    ·have q:=u0.frzs b o xs e
     rw [ae (af q nD)]; exact q
    ·obtain⟨more,q⟩:=u0.tbls b ps e
     exact⟨more,by rw [ae (af q nD)]; exact q⟩
   have IX:Inv X pins σ (upd H' s2.heap.objs.size (.lst ys)) s4:=I2.call' (ch:=fp) I4.os un hok I4.bare fun b hb=>by
    obtain⟨f0,f1,ff,f3,f4,f5⟩:=f2 b hb
    exact⟨f3,f1,f4,f5⟩
   have hG0:H' G.objs.size=none:=I4.free
   refine⟨s2.heap.objs.size,_,m1,rfl,IX,hn1,⟨by rw [ae (Ne.symm hDC)]; exact hG0,fun z=>?_,fun z=>?_,.inr ?_,fun x c e z=>?_,fun p hp z=>?_⟩,q _ nD⟩
   ·have q1:@LT.lt Nat _ X.env.locals s2.heap.objs.size:=I2.lt
    have q2:@Eq Nat G.objs.size X.env.locals:=z
    omega
   ·have z':G.objs.size∈frs X.outer:=z
    obtain⟨_,o,ho,_⟩:=I2.funs.mem z'
    have q1:@LT.lt Nat _ G.objs.size s2.heap.objs.size:=YF ho
    omega
   ·have q1:=I2.sz
    show @LE.le Nat _ X.s₀.heap.objs.size G.objs.size
    omega
   ·have q1:=celll x c e
    have q2:@Eq Nat c G.objs.size:=z
    omega
   ·have q1:@LT.lt Nat _ p.1 s2.heap.objs.size:=YF (I2.pin p hp).1
    have q2:@Eq Nat p.1 G.objs.size:=z
    omega
  ·refine thn (T.item X' rfl rfl rfl hc i _ s' σ' H' _ I' (stat fr' (by simp)) st' go) fun r s4 ⟨u,hr,h4⟩=>?_
   subst hr
   show wpAny _ _ (letOwnedTupleGo tg (.ref it) u) _ _ s4
   refine thn h4 fun _ s5 ⟨x,H5,I5,r5,y5,st5,fr5⟩=>?_
   have I5':=I5.pinned (stat fr5 (by simp)) (T.obj _ _ st5)
   have w1:=hg cl G.objs.size fp s2 H2 _ s5 σ' H5 x u _ I5' r5 (step x H5 y5)
   refine YH w1 (fun _ s6 ⟨σ6,H6,I6,q6⟩=>?_) fun v s hv=>absurd hv (hE v s)
   obtain⟨NN,q6,hNN⟩:=q6
   have w2:=he cl G.objs.size fp s2 H2 _ s6 σ6 H6 _ I6 q6
   refine YH w2 (fun y s7 ⟨v,H7,I7,r7,q7⟩=>?_) fun v s hv=>absurd hv (hE v s)
   obtain⟨m',hm',w7⟩:=hNN v H7 q7
   have pinD:=I7.pin (s2.heap.objs.size,{cls:=.type "list",data:=.seq us.toArray k}) (YI _ (XC _ (by simp)))
   obtain⟨pD,nD,lD,fD,_⟩:=pinD
   refine append_at (hsz:=by rw [YL,← rv.length]; exact hlen) pD fun h8 hs8 hD8=>?_
   have nD:H7 s2.heap.objs.size=none:=nD
   have I8:Inv X' (b8 fp s5.heap) σ6 H7 {s7 with heap:=h8}:=by
    refine(I7.pins_of (pins':=b8 fp s5.heap) fun p hp=>I7.pin p (YI _ (YI _ hp))).turned (t':=s7.toks) (it:=s2.heap.objs.size) (fun b o hb e=>(hs8.2 b hb).trans e) nD lD (.inr (YD _)) (fun x c e z=>?_) fun p hp z=>?_
    ·have q1:=celll x c (c1 x c e)
     have q2:@Eq Nat c s2.heap.objs.size:=z
     omega
    ·have hp':p∈b8 fp s5.heap:=by simpa [X',ak] using hp
     have q1:=fl p.1 (dY hp').1
     have q2:@Eq Nat p.1 s2.heap.objs.size:=z
     omega
   have I9:Inv X' [(s2.heap.objs.size,{cls:=.type "list",data:=.seq (us++[y]).toArray (k+1)})] σ6 H7 {s7 with heap:=h8}:=I8.pins_of fun p hp=>by
    have e:p=(s2.heap.objs.size,{cls:=.type "list",data:=.seq (us++[y]).toArray (k+1)}):=by simpa using hp
    subst e
    refine⟨by rw [hD8,List.push_toArray],nD,lD,fD,fun v z=>by cases z⟩
   refine⟨m',hm',i+1,ys++[v],us++[y],k+1,σ6,H7,I9,rv.append (.cons r7 .nil),T.keep _ _ _ st5 fun b hb o e=>?_,fun b hb=>?_,by rw [YY,XH]; omega,w7⟩
   ·exact(I8.pin (b,o) (YI _ (ba hb e))).1
   ·obtain⟨o,e,d⟩:=T.obj _ _ st5 b hb
    exact(I8.pin (b,o) (YI _ (ba hb e))).2.1
 exact codeAny_compStart_list (loop _ rfl) (T.self _ 0 _ _ _ hst1 (loop _ rfl))
theorem kO{wi:TI}{g:ay TG}{te:ay TE}(hE:∀ v s,¬ X.xe v s)(hc:X.calm=true)(S:aK n N' X scope)(hi:PI X tg iter wi)
  (hg:∀ cl C ex s H,PG (ak X N' scope cl C ex s H) tg (g cl C ex s H)) (he:∀ cl C ex s H,PE (ak X N' scope cl C ex s H) elt (te cl C ex s H))
  (hs:∀ x,foldedSetIterable iter X.env x=pure x:=by intro _; rfl):PE X (.ListComp elt [⟨tg,iter,[],0⟩] scope pos) (rO n wi g te):=by
 intro pins s σ H Q I h
 rw [eval_ListComp]
 obtain⟨cl,hcl,c1,c2⟩:=dw (scope:=scope) (env:=X.env) fun x hx hf=>I.ok.has x.1 (S.free x hx hf)
 refine wpAny_comprehension_free (use:=none) rfl hs hcl S.kind S.names (thn (hi pins s σ H _ I h) fun v s1 h1=>thn h1 fun itv s2 h2=>?_)
 obtain⟨it,fp,tn,J,H2,e,I2,T,st2,f2,cok⟩:=h2
 subst e
 refine YH (jp (pos:=pos) (iter:=iter) (Q:=Q) (E:=X.xe) hE hc S c1 c2 I2 T st2 f2 hg he cok) (fun acc s3 h3=>YH h3 (fun cenv s4 h4=>codeAny_mono h4 fun r s' hr=>?_) fun _ _ z=>z) fun _ _ z=>z
 cases r with
 | error e=>exact False.elim hr
 | ok f=>
  obtain⟨D,H',m,rfl,I',hn,⟨f0,f1,ff,f3,f4,f5⟩,q⟩:=hr
  refine⟨m,hn,fun h' hs'=>⟨.ref D,H',?_,rfl,q⟩⟩
  exact I'.turned (t':=s'.toks) (fun b o hb e=>(hs'.2 b hb).trans e) f0 f1 f3 f4 f5
theorem i4{wi:TI}{g:ay TG}{te:ay TE}{i:Nat}{x:Str}{pos' spos:Pos}(hN:X.N.Nodup)(hi0:X.N[i]? = some x)(hx:Loc X.env.scope x)
  (hsw:swapsWith (.ListComp elt [⟨tg,iter,[],0⟩] scope pos) (some (.Name x pos')) spos.line X.env=pure true)
  (hE:∀ v s,¬ X.xe v s) (hc:X.calm=true) (S:aK n N' X scope) (hi:PI X tg iter wi)
  (hg:∀ cl C ex s H,PG (ak X N' scope cl C ex s H) tg (g cl C ex s H)) (he:∀ cl C ex s H,PE (ak X N' scope cl C ex s H) elt (te cl C ex s H))
  (hs:∀ x,foldedSetIterable iter X.env x=pure x:=by intro _; rfl) (hf:X.fn x=true∨X.env.scope.names.lookup x=some .local:=by first | exact .inl rfl | exact .inr rfl | assumption) :
  PS X (.Assign [.Name x pos'] (.ListComp elt [⟨tg,iter,[],0⟩] scope pos) spos) (rQ (rO n wi g te) (du i)):=by
 intro pins s σ H D I h
 rw [exec_Assign_Name_used _ _ _ _ hsw]
 refine Yz (wpAny_standAt (Yz ?_))
 obtain⟨cl,hcl,c1,c2⟩:=dw (scope:=scope) (env:=X.env) fun x hx hf=>I.ok.has x.1 (S.free x hx hf)
 show wpAny _ _ (do let _ ← comprehension (.ListComp elt [⟨tg,iter,[],0⟩] scope pos) scope X.env _ (newList []) false (eval iter X.env) (some (assign (.Name x pos') X.env))) _ _ s
 refine Yz (YH (wpAny_comprehension_free (use:=some (assign (.Name x pos') X.env)) (Q:=fun _ s'=>SP X pins D .next s') rfl hs hcl S.kind S.names
  (thn (hi pins s σ H _ I h) fun v s1 h1=>thn h1 fun itv s2 h2=>?_)) (fun _ s' hq=>YB (YB hq)) fun _ _ e=>e)
 obtain⟨it,fp,tn,J,H2,e,I2,T,st2,f2,cok⟩:=h2
 subst e
 refine YH (jp (pos:=pos) (iter:=iter) (E:=X.xe) (Q:=fun x H1=>du i x σ H1 D.nx) hE hc S c1 c2 I2 T st2 f2 hg he cok) (fun acc s3 h3=>YH h3 (fun cenv s4 h4=>codeAny_mono h4 fun r s' hr=>?_) fun _ _ z=>z) fun _ _ z=>z
 cases r with
 | error e=>exact False.elim hr
 | ok f=>
  obtain⟨Dl,H',m,rfl,I',hn,⟨f0,f1,ff,f3,f4,f5⟩,q⟩:=hr
  show wpAny _ _ (assign (.Name x pos') X.env (.ref Dl)) _ _ s'
  refine wpAny_assign_Name (gU I' hN hi0 hx (v:=.ref Dl) (u:=.ref Dl) rfl (fun s'' I'' hb=>?_) hf)
  obtain⟨a,sb,ha⟩:=hb
  have hCa:cenv.locals≠a:=by
   rcases ha with rfl | ha
   ·exact f1
   ·exact fun z=>f4 x a ha z.symm
  refine⟨m,hn.sameBut sb hCa,fun h' hs'=>⟨_,H',?_,q⟩⟩
  exact I''.turned (t':=s''.toks) (fun b o hb e=>(hs'.2 b hb).trans e) f0 f1 f3 f4 f5
end
section
variable{X:Cx}{tg:Expr}
def Its(z:Str):It:=⟨fun i _=>i<z.cps.size,fun i H x H'=>H'=H∧∃ c,z.cps[i]? = some c∧x=.str ⟨#[c]⟩,fun i _=>z.cps.size≤i⟩
theorem rD{P:Program}{w:World}{K:WB}{tg:Expr}{T:String}{t:Tok}(it:Addr)(z:Str)
  (hT:T="str_ascii_iterator"∨T="str_iterator") (W:∀ A:Around,A.handled=none→Walks P w A it [it] [it] z.cps.size (SignAt z) (fun i h=>h.IsStrIter it T z t i)) :
  jt P w K tg (Its z) [it] it (fun i h=>h.IsStrIter it T z t i) where
 mem:=by simp
 obj:=fun i h st b hb=>by
  have e:b=it:=by simpa using hb
  subst e
  obtain⟨o,e,c,d⟩:=st
  exact⟨o,e,fun v z=>by rw [d] at z; cases z⟩
 keep:=fun i h h' st k=>by
  obtain⟨o,e,r⟩:=st
  exact⟨o,k it (by simp) o e,r⟩
 item:=by
  intro X hP hw hK hc i pins s σ H E I hf st hg
  subst hP hw hK
  obtain⟨f0,f1,f2,f3,f4,f5⟩:=hf it (by simp)
  refine(W _ (I.ok.hd hc)).item i s _ _ hg st fun v h' tk hv st' kk=>?_
  obtain⟨c,u,hcu,rfl⟩:=hv
  have I1:Inv X pins σ H {s with heap:=h',toks:=tk}:=I.turned (fun b o hb e=>kk b o (by simpa using hb) e) f0 f1 f3 f4 f5
  obtain⟨o,e,cc,d⟩:=id st'
  refine⟨_,rfl,pI (s:={s with heap:=h',toks:=tk}) (n:=T) e cc d ?_ ⟨.str ⟨#[c]⟩,H,I1,⟨u,rfl⟩,⟨rfl,c,hcu,rfl⟩,st',fun b hb=>(hf b hb).1⟩⟩
  rcases hT with rfl | rfl <;> decide
 done:=by
  intro X hP hw hK hc i pins s σ H E I hf st hg
  subst hP hw hK
  obtain⟨f0,f1,f2,f3,f4,f5⟩:=hf it (by simp)
  have hg:z.cps.size≤i:=hg
  rcases hT with rfl | rfl
  ·exact wpAny_pyNext_ascii_end (I.ok.hd hc) st (by simp; omega) fun h' eb=>⟨rfl,I.turned (t':=s.toks) (fun b o hb e=>eb b o hb e) f0 f1 f3 f4 f5⟩
  ·exact wpAny_pyNext_wide_end (I.ok.hd hc) st (by simp; omega) fun h' eb=>⟨rfl,I.turned (t':=s.toks) (fun b o hb e=>eb b o hb e) f0 f1 f3 f4 f5⟩
 self:=fun A i s Q E st h=>by
  rcases hT with rfl | rfl
  ·exact wpAny_pyIter_striter_ascii st h
  ·exact wpAny_pyIter_striter_wide st h
inductive iStrI(R:It→Hp→Prop)(x:V)(H1:Hp):Prop | mk (z) (_:x=.str z) (_:R (Its z) H1)
def z5(tl:TE):TI:=fun σ H R=>tl σ H (iStrI R)
theorem xI{l:Expr}{tl:TE}(hl:PE X l tl):PI X tg l (z5 tl):=by
 intro pins s σ H R I h
 refine thn (hl pins s σ H _ I h) fun v s1 ⟨x,H1,I1,r1,q1⟩=>?_
 obtain⟨z,e,q⟩:=q1
 subst e
 obtain⟨t,rfl⟩:=r1
 have fin:∀ (T:String) (o:Obj),(T="str_ascii_iterator"∨T="str_iterator")→(∀ A:Around,A.handled=none→Walks X.prog X.w A s1.heap.objs.size [s1.heap.objs.size] [s1.heap.objs.size] z.cps.size (SignAt z) (fun i h=>h.IsStrIter s1.heap.objs.size T z t i))→
   (s1.heap.push o).IsStrIter s1.heap.objs.size T z t 0→PIE X pins σ tg R (.ref s1.heap.objs.size) {s1 with heap:=s1.heap.push o}:=fun T o hT W st=>
  ⟨s1.heap.objs.size,[s1.heap.objs.size],_,_,H1,rfl,I1.kept (t':=s1.toks) fun b o e=>YA _ e,rD _ z hT W,st,fun b hb=>by
   have e:b=s1.heap.objs.size:=by simpa using hb
   subst e
   exact I1.fpOk (YD _) (I1.hok.fresh (YD _)),q⟩
 cases ha:z.cps.all (· < 128)
 ·exact wpAny_pyIter_wide ha (fin "str_iterator" _ (.inr rfl) (fun A hA=>Walks.strWide hA _ z t) ⟨_,YJ _ rfl,rfl,rfl⟩)
 ·exact wpAny_pyIter_ascii ha (fin "str_ascii_iterator" _ (.inl rfl) (fun A hA=>Walks.strAscii hA _ z t) ⟨_,YJ _ rfl,rfl,rfl⟩)
section forms
variable{J:It}{K:WB}{a:Addr}{xs:List V}{te:TE}{σ:St}{H:Hp}{Q:VK}
theorem bi(n:Nat)(Pv:Nat→List V→Hp→Prop)(Vx:Nat→V→Prop)(h0:Pv 0 [] H)(hz:n≤sizeLine)(hgo:∀ i ys H,i<n→ys.length=i→Pv i ys H→J.go i H∧∀ x H',J.yld i H x H'→H'=H∧Vx i x)
  (hstop:∀ ys H,ys.length=n→Pv n ys H→J.stop n H)
  (hs:∀ i x ys H,i<n→Vx i x→ys.length=i→Pv i ys H→te (some x::σ) H fun v H3=>Pv (i+1) (ys++[v]) H3)
  (hd:∀ ys H,ys.length=n→Pv n ys H→∀ D,H D=none→Q (.ref D) (upd H D (.lst ys))):gj 1 J (du 0) te σ H Q:=by
 refine⟨fun i m ys σ' H=>m=n-i∧i≤n∧ys.length=i∧(∃ o,σ'=o::σ)∧Pv i ys H,⟨n,by simp,YO _,rfl,⟨none,rfl⟩,h0⟩,?_⟩
 rintro i m ys σ' H ⟨rfl,hi,hy,⟨o,rfl⟩,p⟩
 by_cases hlt:i<n
 ·obtain⟨g1,g2⟩:=hgo i ys H hlt hy p
  refine .inr ⟨g1,by omega,fun x H' y=>?_⟩
  obtain⟨e,hx⟩:=g2 x H' y
  subst e
  exact⟨fun v H3=>Pv (i+1) (ys++[v]) H3,hs i x ys _ hlt hx hy p,fun v H3 h3=>⟨n - (i+1),by omega,rfl,hlt,by simp [hy],⟨_,rfl⟩,h3⟩⟩
 ·obtain rfl:i=n:=by omega
  exact .inl ⟨hstop ys H hy p,hd ys H hy p⟩
theorem dF{i:Nat}(hq:SqL K H a xs)(hlt:i<xs.length):(Itl K a).go i H∧∀ x H',(Itl K a).yld i H x H'→H'=H∧xs[i]? = some x:=
 ⟨⟨xs,xs[i],hq,by simp [hlt]⟩,fun x H' ⟨e,y⟩=>⟨e,y xs hq⟩⟩
theorem ck(hq:SqL K H a xs):(Itl K a).stop xs.length H:=⟨xs,hq,YD _⟩
theorem kZ{i:Nat}(hq:SqT K H a xs)(hlt:i<xs.length):(Itt K a).go i H∧∀ x H',(Itt K a).yld i H x H'→H'=H∧xs[i]? = some x:=
 ⟨⟨xs,xs[i],hq,by simp [hlt]⟩,fun x H' ⟨e,y⟩=>⟨e,y xs hq⟩⟩
theorem gr(hq:SqT K H a xs):(Itt K a).stop xs.length H:=⟨xs,hq,YD _⟩
theorem ut{lo:Int}{n i:Nat}(hlt:i<n):(Itr lo n).go i H∧∀ x H',(Itr lo n).yld i H x H'→H'=H∧x=.int (lo+i):=⟨hlt,fun _ _ y=>y⟩
theorem rR{lo:Int}{n:Nat}:(Itr lo n).stop n H:=YD n
theorem oq{z:Str}{i:Nat}(hlt:i<z.cps.size):(Its z).go i H∧∀ x H',(Its z).yld i H x H'→H'=H∧∃ c,z.cps[i]? = some c∧x=.str ⟨#[c]⟩:=⟨hlt,fun _ _ y=>y⟩
theorem iT{z:Str}:(Its z).stop z.cps.size H:=YD z.cps.size
end forms
inductive rCall_allBI(K:WB)(xs:List V)(H:Hp)(Q:VK):Prop | mk (p:Addr) (bs:List Bool) (_:xs=[.ref p]) (_:SqL K H p (bs.map V.bl)) (_:Q (.bl (bs.all id)) H)
theorem qZ(hc:X.calm=true):bZ X (.builtin "all") (rCall_allBI X.K):=by
 intro pins s σ H xs us Q I r h
 obtain⟨p,bs,rfl,hq,q⟩:=h
 obtain⟨u,rfl,rx⟩:=dj r
 cases rx
 obtain⟨its,r',pl,hz⟩:=I.list hq
 have hlen:=r'.length
 rw [YC] at hlen
 have hit:∀ (i:Nat) (v:Value),its[i]? = some v→∃ b,bs[i]? = some b∧v=Value.bool b:=fun i v e=>by
  have hi:i<its.length:=(YV.mp e).1
  have hb:i<bs.length:=by omega
  obtain⟨u,hu,ru⟩:=r'.get (i:=i) (x:=V.bl bs[i]) (by simp [hb])
  rw [e] at hu; cases hu
  exact⟨bs[i],by simp [hb],ru⟩
 refine call_all_walk (wpAny_pyIter_list pl.isList ?_)
 have hp:p<s.heap.objs.size:=by obtain⟨o,n,e,_⟩:=pl; exact YF e
 refine⟨s.heap.objs.size,[s.heap.objs.size,p],[s.heap.objs.size],its.toArray.size,_,_,fun i=>bs.getD i false,rfl,Walks.list (by simpa using I.ok.hd hc) _ p (YT hp) its.toArray,⟨⟨_,YJ _ rfl,rfl,rfl⟩,pl.isList.push _⟩,fun i v s Q E hP hQ=>?_,fun h' tk kk=>?_⟩
 ·obtain⟨b,hb,rfl⟩:=hit i v (by simpa using hP)
  have e:bs.getD i false=b:=by simp [List.getD,hb]
  have hQ':Q (bs.getD i false) s:=hQ
  rw [e] at hQ'
  exact wpAny_truthy_bool hQ'
 ·have e:((List.range its.toArray.size).all fun i=>bs.getD i false)=bs.all id:=by
   rw [YL,← hlen]
   rw [X4,XN,XN]
   constructor
   ·intro h b hb
    obtain⟨i,hi,rfl⟩:=List.mem_iff_getElem.mp hb
    have:=h i (List.mem_range.mpr hi)
    simpa [List.getD,hi] using this
   ·intro h i hi
    have hi':=List.mem_range.mp hi
    have:=h bs[i] (XL hi')
    simpa [List.getD,hi'] using this
  refine⟨.bl (bs.all id),H,?_,by rw [e]; rfl,q⟩
  exact I.kept fun b o eb=>kk b o (fun z=>YT (YF eb) (by simpa using z)) (YA _ eb)
end
end L2
set_option maxHeartbeats 8000000
namespace L2
open PySem PySem.Spec PyProof.Rows
def cD(σ:List Str)(v:Str):List Str:=if σ.any (· == v) then σ else σ++[v]
def cU(val:Nat→Str)(i:Nat):List Str:=((List.range i).map val).foldl cD []
theorem hV(val:Nat→Str)(i:Nat):cU val (i+1)=cD (cU val i) (val i):=by
 unfold cU; rw [List.range_succ,Y1,List.foldl_append]; rfl
theorem eZ(val:Nat→Str):∀ i,(cU val i).length≤i
 | 0=>YD _
 | i+1=>by
  rw [hV]; unfold cD
  have ih:=eZ val i
  split
  ·omega
  ·rw [YY,XH]; omega
theorem qf(σ:List Str)(v k:Str):(cD σ v).any (· == k)=(σ.any (· == k)||decide (k=v)):=by
 unfold cD
 by_cases h:σ.any (· == v)=true
 ·rw [if_pos h]
  by_cases e:k=v
  ·subst e; rw [h]; simp
  ·simp [e]
 ·rw [if_neg h,List.any_append]
  by_cases e:k=v
  ·subst e; simp
  ·have hb:(v==k)=false:=by
    rw [beq_eq_false_iff_ne]; exact fun h'=>e h'.symm
   simp [hb,e]
theorem kr(σ:List Str)(v:Str):(cD σ v).length=if σ.any (· == v) then σ.length else σ.length+1:=by
 unfold cD; split <;> simp
section
variable{prog:Program}{w:World}{A:Around}{R:Result→Shared→Prop}{I:Addr}{fp wr:List Addr}{G:Array GenState→Array GenState→Prop}{n:Nat}{P:Nat→Value→Prop}{St:Nat→Shared→Prop}
theorem jG(W:WalksS prog w A.in1 I fp wr G n P St)(S:Addr)(hSf:S∉fp)
  (val:Nat→Str) (hval:∀ i v,P i v→∃ t,v=.str (val i) t) (hb:n+1<scanBound) :
  ∀ (k i:Nat) (s:Shared),n-i=k→i≤n→St i s→
   s.heap.SetOf (PySem.strKind prog w) S (fun k'=>(cU val i).any (· == k')) (cU val i).length→
   (∀ s',Moved (S::wr) G s s'→s'.heap.SetOf (PySem.strKind prog w) S (fun k'=>(cU val n).any (· == k')) (cU val n).length→R (.ok (.ret .none)) s')→
   codeAny (model prog w) A (.builtin "set.update.loop" ⟨[.ref S,.ref I],[]⟩) R s:=by
 have hSw:S∉wr:=fun h=>hSf (W.sub _ h)
 have hsub:∀ b∈wr,b∈S::wr:=fun b hb=>Y0 _ hb
 intro k
 induction k with
 | zero=>
  intro i s hk hi hst hS hR
  have hin:i=n:=by omega
  subst hin
  refine codeAny_builtin PyProof.Rows.F.entry_set_update_loop ?_
  rw [Around.under_plainId PyProof.Rows.F.plain_set_update_loop _]
  show wpAny _ A.in1 (pyNext (.ref I)>>=_) _ _ s
  refine Yz (W.done s _ _ hst fun s' hm=>?_)
  show wpAny _ A.in1 (ret Value.none) _ _ s'
  exact YB (hR s' (hm.mono hsub) (by
   obtain⟨o,es,ep,t,ho,rest⟩:=hS
   exact⟨o,es,ep,t,hm.heap S _ hSw ho,rest⟩))
 | succ k ih=>
  intro i s hk hi hst hS hR
  have hlt:i<n:=by omega
  refine codeAny_builtin PyProof.Rows.F.entry_set_update_loop ?_
  rw [Around.under_plainId PyProof.Rows.F.plain_set_update_loop _]
  show wpAny _ A.in1 (pyNext (.ref I)>>=_) _ _ s
  refine Yz (W.item i s _ _ hlt hst fun v s' hP hst' hm=>?_)
  obtain⟨t,rfl⟩:=hval i v hP
  have hS':s'.heap.SetOf (PySem.strKind prog w) S (fun k'=>(cU val i).any (· == k')) (cU val i).length:=by
   obtain⟨o,es,ep,tb,ho,rest⟩:=hS
   exact⟨o,es,ep,tb,hm.heap S _ hSw ho,rest⟩
  have his:(PySem.strKind prog w).is (val i) (.str (val i) t)=true:=by show Value.isStrOf (val i) (.str (val i) t)=true; simp [Value.isStrOf]
  show wpAny _ A.in1 (holding [Value.str (val i) t] (setAdd S (.str (val i) t))>>=_) _ _ s'
  refine Yz (wpAny_holding ?_)
  unfold setAdd
  refine wpAny_holding ?_
  refine Yz ((PySem.strKind prog w).pyHash (k:=val i) his ?_)
  have hroom:(cU val i).length+1<scanBound:=by have:=eZ val i; omega
  refine wpAny_setAddHashed_of (knd:=PySem.strKind prog w) (s:={s' with toks:=s'.toks+1}) his rfl hS' hroom fun h' hsb hS2=>?_
  have hSi:h'.SetOf (PySem.strKind prog w) S (fun k'=>(cU val (i+1)).any (· == k')) (cU val (i+1)).length:=
   SetOf_congr hS2 (fun k'=>by rw [hV,qf]) (by rw [hV,kr])
  refine YB ⟨plainId_quiet PyProof.Rows.F.plain_set_update_loop _,ih (i+1) _ (by omega) hlt (W.frame _ s' _ _ hst' (Nat.le_succ _) fun b hb o e=>?_) hSi fun s'' hm'' hS''=>?_⟩
  ·rw [hsb.2 b (fun h:b=S=>hSf (by rw [← h]; exact hb))]; exact e
  ·refine hR s'' (Moved.trans W.gtrans ((hm.mono hsub).then_heap (Nat.le_succ _) fun b o hb e=>?_) hm'') hS''
   rw [hsb.2 b (fun h:b=S=>hb (by rw [h]; exact YX))]; exact e
end
open Sem (wp)
theorem ju:isSubtype (.type "list") (.type "set")=pure false:=by rw [isSubtype_type]; kernel_rfl
theorem fH:isSubtype (.type "list") (.type "frozenset")=pure false:=by rw [isSubtype_type]; kernel_rfl
theorem jr{prog:Program}{w:World}{A:Around}{E:Value→Shared→Prop}{s:Shared}{l:Addr}{items:Array Value}{val:Nat→Str}{Q:Value→Shared→Prop}
  (hh:A.handled=none) (hl:s.heap.IsList l items) (hi:∀ (i:Nat) (v:Value),items[i]? = some v→∃ t,v=.str (val i) t) (hb:items.size+1<scanBound)
  (h:∀ (h':Heap) (tk:Nat),h'.SetOf (PySem.strKind prog w) s.heap.objs.size (fun k'=>(cU val items.size).any (· == k')) (cU val items.size).length→
   (∀ b o,b<s.heap.objs.size→s.heap.get? b=some o→h'.get? b=some o)→Q (.ref s.heap.objs.size) {s with heap:=h',toks:=tk}) :
  wpAny (model prog w) A (call (.type "set") [.ref l]) Q E s:=by
 obtain⟨c,tl,hmro⟩:=PySem.F.called_set.mro
 have hmade:=PySem.F.called_set.made
 have hsub:=PySem.F.called_set.sub
 refine wpAny_call (codeAny_of_tree ?_)
 show wpAny _ _ (callAny (.type "set") _) _ _ _
 refine YB ⟨Code.quiet_builtin _ (by decide +kernel),codeAny_builtin PySem.F.entry_type_call ?_⟩
 rw [Around.under_plain (weight_type_call_type "set" [.ref l] []) rfl]
 have h1:=PySem.F.called_set.notType
 have h2:=PySem.F.called_set.canCreate
 have hct:=PySem.F.typeCall_set_1 (.ref l)
 repeat (any_goals (first | assumption | wp_step))
 refine codeAny_mono (code_set_new_1 (.ref l) (E:=E) (Q₁:=fun obj s₁=>∃ led:Bool,obj=.ref s.heap.objs.size∧s₁={s with heap:=s.heap.push {cls:=.type "set",dict:=none,data:=.set #[] 0 (.fresh 0 0 led)}}) fun led=>⟨led,rfl,rfl⟩) fun r s₁ hr=>?_
 cases r with
 | error e=>exact hr
 | ok fl=>
  cases fl with
  | ret obj=>
   obtain⟨led,rfl,rfl⟩:=hr
   have hS:(s.heap.push {cls:=.type "set",dict:=none,data:=.set #[] 0 (.fresh 0 0 led)}).get? s.heap.objs.size=some {cls:=.type "set",dict:=none,data:=.set #[] 0 (.fresh 0 0 led)}:=YJ _ rfl
   have hT:Shared.TypeIs {s with heap:=s.heap.push {cls:=.type "set",dict:=none,data:=.set #[] 0 (.fresh 0 0 led)}} (.ref s.heap.objs.size) "set":=⟨_,hS,rfl⟩
   have hli:=PySem.F.called_set.init.lookup
   have hbi:=PySem.F.called_set.init.bind (.ref s.heap.objs.size)
   repeat (any_goals (first | assumption | wp_step))
   refine codeAny_mono (codeAny_call_builtin (R:=wants (fun r s₂=>r=.none∧∃ h' tk,s₂={s with heap:=h',toks:=tk}∧
     h'.SetOf (PySem.strKind prog w) s.heap.objs.size (fun k'=>(cU val items.size).any (· == k')) (cU val items.size).length∧
     (∀ b o,b<s.heap.objs.size→s.heap.get? b=some o→h'.get? b=some o)) E) PySem.F.called_set.init.plain PySem.F.entry_set_init (check_set_init_1 hT ?_)) fun r₂ s₂ hr₂=>?_
   ·obtain⟨ol,hol,hcl,nl,hdl⟩:=hl
    obtain⟨ocls,odict,odata,oslots⟩:=ol
    simp only at hcl hdl
    subst hcl; subst hdl
    have hol':(s.heap.push {cls:=.type "set",dict:=none,data:=.set #[] 0 (.fresh 0 0 led)}).get? l=some {cls:=.type "list",dict:=odict,data:=.seq items nl,slots:=oslots}:=YA _ hol
    have hsls:=ju
    have hslf:=fH
    have hne:(Value.type "list"==Value.type "dict")=false:=by decide
    have hl1:(s.heap.push {cls:=.type "set",dict:=none,data:=.set #[] 0 (.fresh 0 0 led)}).IsList l items:=⟨_,hol',rfl,nl,rfl⟩
    unfold Builtin.«set.__init__» noKeywords Builtin.Frozenset.updateFrom
    generalize hPI:pyIter=PI
    wp_walk
    subst hPI
    refine wpAny_pyIter_list hl1 ?_
    refine Yz (wpAny_runValue ?_)
    have hlS:l<s.heap.objs.size:=YF hol
    have hh3:A.in1.in1.in1.handled=none:=by simp [hh]
    have hneI:l≠(s.heap.push {cls:=.type "set",dict:=none,data:=.set #[] 0 (.fresh 0 0 led)}).objs.size:=by
     rw [XD]; exact YT (Nat.lt_succ_of_lt hlS)
    have hSf:s.heap.objs.size∉[(s.heap.push {cls:=.type "set",dict:=none,data:=.set #[] 0 (.fresh 0 0 led)}).objs.size,l]:=by
     rw [XD]; simp only [YM,YK,XB,or_false,not_or]
     exact⟨YT (Nat.lt_succ_self _),X3 hlS⟩
    refine jG ((Walks.list hh3 _ l hneI items).toS) s.heap.objs.size
     hSf val hi hb (items.size-0) 0 _ (by omega) (YO _)
     ⟨⟨_,YJ _ rfl,rfl,rfl⟩,(hl1.push _)⟩ ?hS0 ?hR
    case hS0=>
     have hget:((s.heap.push {cls:=.type "set",dict:=none,data:=.set #[] 0 (.fresh 0 0 led)}).push {cls:=.type "list_iterator",data:=.fields #[.ref l,.int 0 0]}).get? s.heap.objs.size
       = some {cls:=.type "set",dict:=none,data:=.set #[] 0 (.fresh 0 0 led)}:=YA _ hS
     exact PyProof.Rows.SetOf_congr ((PyProof.Rows.setObjOf_fresh (knd:=PySem.strKind prog w) led).setOf hget (by unfold scanBound; omega)) (fun _=>rfl) rfl
    case hR=>
     intro s' hm hS'
     obtain⟨h',g',d',tk',os'⟩:=s'
     have eg:g'=s.gens:=hm.gens
     have ed:d'=s.drawn:=hm.drawn
     have eo:os'=s.os:=hm.os
     subst eg; subst ed; subst eo
     show wpAny _ _ _ _ _ _
     refine YB ?_
     show wpAny _ _ (ret Value.none) _ _ _
     refine YB ⟨rfl,h',tk',rfl,hS',fun b o hb e=>?_⟩
     have hb1:b≠s.heap.objs.size:=YT hb
     have hb2:b≠(s.heap.push {cls:=.type "set",dict:=none,data:=.set #[] 0 (.fresh 0 0 led)}).objs.size:=by
      rw [XD]; exact YT (Nat.lt_succ_of_lt hb)
     exact hm.heap b o (by simp only [YM,YK,XB,or_false,not_or]; exact⟨hb1,hb2⟩) (YA _ (YA _ e))
   ·cases r₂ with
    | error e=>exact hr₂
    | ok fl₂=>
     cases fl₂ with
     | ret r=>
      obtain⟨rfl,h',tk,rfl,hS',hk'⟩:=hr₂
      repeat (any_goals (first | assumption | wp_step))
      exact h _ _ hS' hk'
     | _=>exact hr₂.elim
  | _=>exact hr.elim
theorem iR:isSubtype (.type "tuple") (.type "set")=pure false:=by rw [isSubtype_type]; kernel_rfl
theorem eO:isSubtype (.type "tuple") (.type "frozenset")=pure false:=by rw [isSubtype_type]; kernel_rfl
theorem iC{prog:Program}{w:World}{A:Around}{E:Value→Shared→Prop}{s:Shared}{l:Addr}{items:Array Value}{val:Nat→Str}{Q:Value→Shared→Prop}
  (hh:A.handled=none) (hl:s.heap.IsTuple l items) (hi:∀ (i:Nat) (v:Value),items[i]? = some v→∃ t,v=.str (val i) t) (hb:items.size+1<scanBound)
  (h:∀ (h':Heap) (tk:Nat),h'.SetOf (PySem.strKind prog w) s.heap.objs.size (fun k'=>(cU val items.size).any (· == k')) (cU val items.size).length→
   (∀ b o,b<s.heap.objs.size→s.heap.get? b=some o→h'.get? b=some o)→Q (.ref s.heap.objs.size) {s with heap:=h',toks:=tk}) :
  wpAny (model prog w) A (call (.type "set") [.ref l]) Q E s:=by
 obtain⟨c,tl,hmro⟩:=PySem.F.called_set.mro
 have hmade:=PySem.F.called_set.made
 have hsub:=PySem.F.called_set.sub
 refine wpAny_call (codeAny_of_tree ?_)
 show wpAny _ _ (callAny (.type "set") _) _ _ _
 refine YB ⟨Code.quiet_builtin _ (by decide +kernel),codeAny_builtin PySem.F.entry_type_call ?_⟩
 rw [Around.under_plain (weight_type_call_type "set" [.ref l] []) rfl]
 have h1:=PySem.F.called_set.notType
 have h2:=PySem.F.called_set.canCreate
 have hct:=PySem.F.typeCall_set_1 (.ref l)
 repeat (any_goals (first | assumption | wp_step))
 refine codeAny_mono (code_set_new_1 (.ref l) (E:=E) (Q₁:=fun obj s₁=>∃ led:Bool,obj=.ref s.heap.objs.size∧s₁={s with heap:=s.heap.push {cls:=.type "set",dict:=none,data:=.set #[] 0 (.fresh 0 0 led)}}) fun led=>⟨led,rfl,rfl⟩) fun r s₁ hr=>?_
 cases r with
 | error e=>exact hr
 | ok fl=>
  cases fl with
  | ret obj=>
   obtain⟨led,rfl,rfl⟩:=hr
   have hS:(s.heap.push {cls:=.type "set",dict:=none,data:=.set #[] 0 (.fresh 0 0 led)}).get? s.heap.objs.size=some {cls:=.type "set",dict:=none,data:=.set #[] 0 (.fresh 0 0 led)}:=YJ _ rfl
   have hT:Shared.TypeIs {s with heap:=s.heap.push {cls:=.type "set",dict:=none,data:=.set #[] 0 (.fresh 0 0 led)}} (.ref s.heap.objs.size) "set":=⟨_,hS,rfl⟩
   have hli:=PySem.F.called_set.init.lookup
   have hbi:=PySem.F.called_set.init.bind (.ref s.heap.objs.size)
   repeat (any_goals (first | assumption | wp_step))
   refine codeAny_mono (codeAny_call_builtin (R:=wants (fun r s₂=>r=.none∧∃ h' tk,s₂={s with heap:=h',toks:=tk}∧
     h'.SetOf (PySem.strKind prog w) s.heap.objs.size (fun k'=>(cU val items.size).any (· == k')) (cU val items.size).length∧
     (∀ b o,b<s.heap.objs.size→s.heap.get? b=some o→h'.get? b=some o)) E) PySem.F.called_set.init.plain PySem.F.entry_set_init (check_set_init_1 hT ?_)) fun r₂ s₂ hr₂=>?_
   ·obtain⟨ol,hol,hcl,nl,hdl⟩:=hl
    obtain⟨ocls,odict,odata,oslots⟩:=ol
    simp only at hcl hdl
    subst hcl; subst hdl
    have hol':(s.heap.push {cls:=.type "set",dict:=none,data:=.set #[] 0 (.fresh 0 0 led)}).get? l=some {cls:=.type "tuple",dict:=odict,data:=.seq items nl,slots:=oslots}:=YA _ hol
    have hsls:=iR
    have hslf:=eO
    have hne:(Value.type "tuple"==Value.type "dict")=false:=by decide
    have hl1:(s.heap.push {cls:=.type "set",dict:=none,data:=.set #[] 0 (.fresh 0 0 led)}).IsTuple l items:=⟨_,hol',rfl,nl,rfl⟩
    unfold Builtin.«set.__init__» noKeywords Builtin.Frozenset.updateFrom
    generalize hPI:pyIter=PI
    wp_walk
    subst hPI
    refine wpAny_pyIter_tuple hl1 ?_
    refine Yz (wpAny_runValue ?_)
    have hlS:l<s.heap.objs.size:=YF hol
    have hh3:A.in1.in1.in1.handled=none:=by simp [hh]
    have hneI:l≠(s.heap.push {cls:=.type "set",dict:=none,data:=.set #[] 0 (.fresh 0 0 led)}).objs.size:=by
     rw [XD]; exact YT (Nat.lt_succ_of_lt hlS)
    have hSf:s.heap.objs.size∉[(s.heap.push {cls:=.type "set",dict:=none,data:=.set #[] 0 (.fresh 0 0 led)}).objs.size,l]:=by
     rw [XD]; simp only [YM,YK,XB,or_false,not_or]
     exact⟨YT (Nat.lt_succ_self _),X3 hlS⟩
    refine jG ((Walks.tuple hh3 _ l hneI items).toS) s.heap.objs.size
     hSf val hi hb (items.size-0) 0 _ (by omega) (YO _)
     ⟨⟨_,YJ _ rfl,rfl,rfl⟩,(hl1.push _)⟩ ?hS0 ?hR
    case hS0=>
     have hget:((s.heap.push {cls:=.type "set",dict:=none,data:=.set #[] 0 (.fresh 0 0 led)}).push {cls:=.type "tuple_iterator",data:=.fields #[.ref l,.int 0 0]}).get? s.heap.objs.size
       = some {cls:=.type "set",dict:=none,data:=.set #[] 0 (.fresh 0 0 led)}:=YA _ hS
     exact PyProof.Rows.SetOf_congr ((PyProof.Rows.setObjOf_fresh (knd:=PySem.strKind prog w) led).setOf hget (by unfold scanBound; omega)) (fun _=>rfl) rfl
    case hR=>
     intro s' hm hS'
     obtain⟨h',g',d',tk',os'⟩:=s'
     have eg:g'=s.gens:=hm.gens
     have ed:d'=s.drawn:=hm.drawn
     have eo:os'=s.os:=hm.os
     subst eg; subst ed; subst eo
     show wpAny _ _ _ _ _ _
     refine YB ?_
     show wpAny _ _ (ret Value.none) _ _ _
     refine YB ⟨rfl,h',tk',rfl,hS',fun b o hb e=>?_⟩
     have hb1:b≠s.heap.objs.size:=YT hb
     have hb2:b≠(s.heap.push {cls:=.type "set",dict:=none,data:=.set #[] 0 (.fresh 0 0 led)}).objs.size:=by
      rw [XD]; exact YT (Nat.lt_succ_of_lt hb)
     exact hm.heap b o (by simp only [YM,YK,XB,or_false,not_or]; exact⟨hb1,hb2⟩) (YA _ (YA _ e))
   ·cases r₂ with
    | error e=>exact hr₂
    | ok fl₂=>
     cases fl₂ with
     | ret r=>
      obtain⟨rfl,h',tk,rfl,hS',hk'⟩:=hr₂
      repeat (any_goals (first | assumption | wp_step))
      exact h _ _ hS' hk'
     | _=>exact hr₂.elim
  | _=>exact hr.elim
def yK(P:Program)(w:World)(p:Addr)(xs:List Str):HO:=HO.ext fun h=>h.SetOf (PySem.strKind P w) p (fun k=>(xs.foldl cD []).any (· == k)) (xs.foldl cD []).length
theorem qC(xs:List Str):cU (fun i=>xs.getD i Str.empty) xs.length=xs.foldl cD []:=by
 unfold cU
 congr 1
 apply List.ext_getElem
 ·simp
 ·intro i h1 h2
  simp [List.getD,h2]
theorem lI{xs:List Str}{its:List Value}(r:ax (xs.map V.str) its):∀ (i:Nat) (v:Value),its.toArray[i]? = some v→∃ t,v=.str (xs.getD i Str.empty) t:=fun i v e=>by
 have hlen:=r.length
 rw [YC] at hlen
 have e:its[i]? = some v:=by simpa using e
 have hi:i<its.length:=(YV.mp e).1
 have hb:i<xs.length:=by omega
 obtain⟨u,hu,ru⟩:=r.get (i:=i) (x:=V.str xs[i]) (by simp [hb])
 rw [e] at hu; cases hu
 obtain⟨t,rfl⟩:=ru
 exact⟨t,by simp [List.getD,hb]⟩
section
variable{X:Cx}
inductive rCall_setTI(K:WB)(P:Program)(w:World)(xs:List V)(H:Hp)(Q:VK):Prop | mk (p:Addr) (ys:List Str) (_:xs=[.ref p]) (_:(SqL K H p (ys.map V.str)∨SqT K H p (ys.map V.str))) (_:ys.length+1<scanBound) (_:∀ d,H d=none→Q (.ref d) (upd H d (yK P w d ys)))
theorem qT(hc:X.calm=true):bZ X (.type "set") (rCall_setTI X.K X.prog X.w):=by
 intro pins s σ H xs us Q I r h
 obtain⟨p,ys,rfl,hq,hb,q⟩:=h
 obtain⟨u,rfl,rx⟩:=dj r
 cases rx
 have fin:∀ (its:List Value),ys.length=its.length→∀ (h':Heap) (tk:Nat),h'.SetOf (PySem.strKind X.prog X.w) s.heap.objs.size (fun k'=>(cU (fun i=>ys.getD i Str.empty) its.toArray.size).any (· == k')) (cU (fun i=>ys.getD i Str.empty) its.toArray.size).length→
   (∀ b o,b<s.heap.objs.size→s.heap.get? b=some o→h'.get? b=some o)→EP X pins σ Q (.ref s.heap.objs.size) {s with heap:=h',toks:=tk}:=fun its hl h' tk hS kk=>by
  have esz:its.toArray.size=ys.length:=by rw [YL,hl]
  rw [esz,qC] at hS
  refine⟨.ref s.heap.objs.size,_,I.laid (t':=tk) (fun b o e=>kk b o (YF e) e) (YD _) ?_,rfl,q _ (I.hok.fresh (YD _))⟩
  refine⟨hS,?_,fun h1 h2 a b=>?_⟩
  ·obtain⟨o,es,ep,t,ho,_⟩:=hS
   exact⟨o,ho⟩
  ·obtain⟨o,es,ep,t,ho,rest⟩:=a
   exact⟨o,es,ep,t,b o ho,rest⟩
 rcases hq with hq | hq
 ·obtain⟨its,r',pl,hz⟩:=I.list hq
  have hlen:=r'.length
  rw [YC] at hlen
  exact jr (val:=fun i=>ys.getD i Str.empty) (I.ok.hd hc) pl.isList (lI r') (by rw [YL]; omega) (fin its hlen)
 ·obtain⟨its,r',pl,hz⟩:=I.tuple hq
  have hlen:=r'.length
  rw [YC] at hlen
  exact iC (val:=fun i=>ys.getD i Str.empty) (I.ok.hd hc) pl (lI r') (by rw [YL]; omega) (fin its hlen)
inductive rCall_lenTI(P:Program)(w:World)(xs:List V)(H:Hp)(Q:VK):Prop | mk (p:Addr) (ys:List Str) (_:xs=[.ref p]) (_:H p=some (yK P w p ys)) (_:Q (.int (ys.foldl cD []).length) H)
theorem qW:bZ X (.builtin "len") (rCall_lenTI X.prog X.w):=by
 intro pins s σ H xs us Q I r h
 obtain⟨p,ys,rfl,hp,q⟩:=h
 obtain⟨u,rfl,rx⟩:=dj r
 cases rx
 obtain⟨hS,_,_⟩:=I.hok p _ hp
 have hS:s.heap.SetOf (PySem.strKind X.prog X.w) p (fun k=>(ys.foldl cD []).any (· == k)) (ys.foldl cD []).length:=hS
 obtain⟨o,es,ep,t,ho,hex,hd,_,_,hsb,hf,hn⟩:=hS
 refine call_len_set ho hex hd hf (by unfold scanBound at hsb; omega) ⟨.int (ys.foldl cD []).length,H,I.tok _,⟨_,by rw [hn]⟩,q⟩
end
theorem iw:∀ (xs σ:List Str),xs.Nodup→(∀ x∈xs,¬ x∈σ)→(xs.foldl cD σ).length=σ.length+xs.length
 | [],σ,_,_=>by simp
 | x::r,σ,h,hn=>by
  obtain⟨h1,h2⟩:=WA.mp h
  have e:cD σ x=σ++[x]:=by
   unfold cD
   rw [if_neg]
   intro z
   obtain⟨y,hy,e⟩:=List.any_eq_true.mp z
   exact hn x YX (by rw [← eq_of_beq e]; exact hy)
  rw [List.foldl_cons,e,iw r _ h2 fun y hy z=>?_]
  ·simp; omega
  ·rcases Y3.mp z with q | q
   ·exact hn y (Y0 _ hy) q
   ·exact h1 (by rw [← YK.mp q]; exact hy)
theorem jB:∀ {xs:List Str} {its:List Value},ax (xs.map V.str) its→∃ l:List (Str×Tok),its=strValues l∧l.map (·.1)=xs
 | [],_,.nil=>⟨[],rfl,rfl⟩
 | x::r,_,.cons ⟨t,e⟩ tl=>by
  obtain⟨l,e1,e2⟩:=jB tl
  exact⟨(x,t)::l,by rw [e,e1]; rfl,by rw [← e2]; rfl⟩
section
variable{X:Cx}
inductive rMt_joinI(K:WB)(x:V)(xs:List V)(H:Hp)(Q:VK):Prop | mk (sep:Str) (p:Addr) (ys:List Str) (_:x=.str sep) (_:xs=[.ref p]) (_:SqL K H p (ys.map V.str)) (_:JoinOk sep ys=true) (_:Q (.str (Str.join sep ys)) H)
theorem wg:MtR X "str.join" (rMt_joinI X.K):=by
 intro pins s σ H x xs v us Q I rx rs h
 obtain⟨sep,p,ys,rfl,rfl,hq,hok,q⟩:=h
 obtain⟨t,rfl⟩:=rx
 obtain⟨u,rfl,ru⟩:=dj rs
 cases ru
 obtain⟨its,r',pl,hz⟩:=I.list hq
 obtain⟨l,rfl,e2⟩:=jB r'
 refine SC.join pl.isList e2 hok fun t' k=>⟨.str (Str.join sep ys),H,I.tok k,⟨t',?_⟩,q⟩
 show Value.str (Txt.join sep ys) t'=_
 rw [show Txt.join sep ys=Str.join sep ys from StrLaws.glued_eq_join sep ys]
inductive rCall_isiTI(K:WB)(T:String)(xs:List V)(H:Hp)(Q:VK):Prop | mk (x:V) (t:Value) (b:Bool) (_:xs=[x,.ty T]) (_:eI K H x t) (_:PySem.W.kitOne K t (.type T)=some b) (_:Q (.bl b) H)
theorem j5{T:String}:bZ X (.builtin "isinstance") (rCall_isiTI X.K T):=by
 intro pins s σ H xs us Q I r h
 obtain⟨x,t,b,rfl,ty,e,q⟩:=h
 obtain⟨u,u',rfl,rx,ry⟩:=im r
 cases ry
 exact qI I rx ty e fun tk=>⟨.bl b,H,I.tok tk,rfl,q⟩
theorem on{pins:List (Addr×Obj)}{σ:St}{H:Hp}{s:Shared}{A:Around}{E:Value→Shared→Prop}{Q:Value→Shared→Prop}{b:Bool}{x:V}{u t:Value}{tp:Addr}{cs:List Value}(I:Inv X pins σ H s)(rx:ar x u)(ty:eI X.K H x t)
  (htp:∃ (dd:Option Addr) (n:Nat) (sl:Array (Option Value)),s.heap.get? tp=some ⟨.type "tuple",dd,.seq cs.toArray n,sl⟩) (e:PySem.W.kitAny X.K t cs=some b) (h:∀ tk,Q (.bool b) {s with toks:=tk}) :
  wpAny (model X.prog X.w) A (call (.builtin "isinstance") [u,.ref tp]) Q E s:=by
 obtain⟨dd,n,sl,htp⟩:=htp
 cases ty with
 | non=>cases (show u=Value.none from rx); exact PySem.W.kia_tup PySem.W.kitx_none I.kIn True.intro htp e (fun z=>nomatch z) h
 | bl y=>cases (show u=Value.bool y from rx); exact PySem.W.kia_tup PySem.W.kitx_bool I.kIn True.intro htp e (fun z=>nomatch z) h
 | int i=>obtain⟨t,q⟩:=(show ∃ t,u=Value.int i t from rx); cases q; exact PySem.W.kia_tup PySem.W.kitx_int I.kIn True.intro htp e (fun z=>nomatch z) h
 | str y=>obtain⟨t,q⟩:=(show ∃ t,u=Value.str y t from rx); cases q; exact PySem.W.kia_tup PySem.W.kitx_str I.kIn True.intro htp e (fun z=>nomatch z) h
 | flt y=>obtain⟨t,q⟩:=(show ∃ t,u=Value.float y t from rx); cases q; exact PySem.W.kia_tup PySem.W.kitx_float I.kIn True.intro htp e (fun z=>nomatch z) h
 | @lst a xs ea=>
  cases (show u=Value.ref a from rx)
  obtain⟨_,_,n,_,h1⟩:=(show aM X.prog X.w H s.heap a (.lst xs) from I.hok a _ ea)
  exact PySem.W.kia_tup PySem.W.kitx_list I.kIn ⟨_,h1,rfl⟩ htp e (fun z=>nomatch z) h
 | @frz a ob xs ea=>
  cases (show u=Value.ref a from rx)
  obtain⟨_,_,_,n,_,h1⟩:=(show aM X.prog X.w H s.heap a (.frz ob (.lst xs)) from I.hok a _ ea)
  exact PySem.W.kia_tup PySem.W.kitx_list I.kIn ⟨_,h1,rfl⟩ htp e (fun z=>nomatch z) h
 | @tup a xs ea=>
  cases (show u=Value.ref a from rx)
  obtain⟨_,_,_,p⟩:=(show aM X.prog X.w H s.heap a (.tup xs) from I.hok a _ ea)
  obtain⟨o,h1,h2,_⟩:=p
  exact PySem.W.kia_tup PySem.W.kitx_tuple I.kIn ⟨o,h1,h2⟩ htp e (fun z=>nomatch z) h
 | @dK a kvs ea=>
  cases (show u=Value.ref a from rx)
  obtain⟨_,_,vs,_,p⟩:=(show aM X.prog X.w H s.heap a (.dK kvs) from I.hok a _ ea)
  obtain⟨o,es,ep,h1,h2,_⟩:=p
  exact PySem.W.kia_tup PySem.W.kitx_dict I.kIn ⟨o,h1,h2.1⟩ htp e (fun z=>nomatch z) h
 | @dT a kvs ea=>
  cases (show u=Value.ref a from rx)
  obtain⟨_,_,xs,_,o,es,ep,h1,h2,_⟩:=(show aM X.prog X.w H s.heap a (.dT kvs) from I.hok a _ ea)
  exact PySem.W.kia_tup PySem.W.kitx_dict I.kIn ⟨o,h1,h2.1⟩ htp e (fun z=>nomatch z) h
 | @ins a C dx fs ea cl ha hn htk hm=>
  cases (show u=Value.ref a from rx)
  obtain⟨mA,O,_⟩:=gA I.hok ea
  obtain⟨od,J,_⟩:=O.look
  exact PySem.W.kia_tup (PySem.W.kitx_own (cl.get _) cl.hd ha hn htk hm) I.kIn J htp e (fun z=>nomatch z) h
inductive rCall_isi2I(K:WB)(T U:String)(xs:List V)(H:Hp)(Q:VK):Prop | mk (x:V) (p:Addr) (t:Value) (b:Bool) (_:xs=[x,.ref p]) (_:H p=some (.tup [.ty T,.ty U])) (_:eI K H x t) (_:PySem.W.kitAny K t [.type T,.type U]=some b) (_:Q (.bl b) H)
theorem qX{T U:String}:bZ X (.builtin "isinstance") (rCall_isi2I X.K T U):=by
 intro pins s σ H xs us Q I r h
 obtain⟨x,p,t,b,rfl,hp,ty,e,q⟩:=h
 obtain⟨u,u',rfl,rx,ry⟩:=im r
 cases ry
 obtain⟨_,its,rv,o,h1,h2,n,h3⟩:=I.hok p _ hp
 obtain⟨a,b',rfl,ra,rb⟩:=im rv
 cases ra
 cases rb
 refine on (cs:=[.type T,.type U]) I rx ty ?_ e fun tk=>⟨.bl b,H,I.tok tk,rfl,q⟩
 obtain⟨oc,od,odt,osl⟩:=o
 cases h2
 cases h3
 exact⟨od,n,osl,h1⟩
end
section
variable{X:Cx}
inductive rCatTT(K:WB)(x y:V)(H:Hp)(Q:VK):Prop | mk (a b xs ys) (_:x=.ref a) (_:y=.ref b) (_:SqT K H a xs) (_:SqT K H b ys) (_:xs.length+ys.length≤sizeLine) (_:(xs=[]→Q (.ref b) H)) (_:(xs≠[]→ys=[]→Q (.ref a) H)) (_:(xs≠[]→ys≠[]→∀ p,H p=none→Q (.ref p) (upd H p (.tup (xs++ys)))))
theorem sS:OpR X (binaryOp .Add) (rCatTT X.K):=by
 intro pins s σ H x y v u Q I rx ry h
 obtain⟨a,b,xs,ys,rfl,rfl,ha,hb,hz,q0,q1,q2⟩:=h
 by_cases hx:xs=[]
 ·cases rx
  cases ry
  obtain⟨its,r1,p1,_⟩:=I.tuple ha
  obtain⟨its2,r2,p2,_⟩:=I.tuple hb
  obtain⟨⟨cls,dd,data,sl⟩,ho,hc,n,hd⟩:=id p1
  obtain⟨⟨cls2,dd2,data2,sl2⟩,ho2,hc2,n2,hd2⟩:=id p2
  simp only at hc hd hc2 hd2
  subst hc hd hc2 hd2
  have e:its=[]:=r1.nil_iff.mpr hx
  exact concat_meets ⟨_,ho,rfl⟩ ⟨_,ho2,rfl⟩ noFill_tuple_add seq_tuple_add PySem.F.slot_tuple_add PySem.F.entry_tuple_add (PySem.F.args_tuple_add_2 _ _)
   (tuple_addW0 a b its.toArray its2.toArray n n2 dd dd2 sl sl2 (by simp [e])) ⟨ho,ho2,⟨.ref b,H,I,rfl,q0 hx⟩⟩
 ·exact vG pins s σ H _ _ v u Q I rx ry ⟨a,b,xs,ys,rfl,rfl,ha,hb,hx,hz,q1 hx,q2 hx⟩
theorem lm:bootBuiltins "len"=some (.builtin "len"):=by decide +kernel
theorem uR:bootBuiltins "max"=some (.builtin "max"):=by decide +kernel
theorem yI:bootBuiltins "abs"=some (.builtin "abs"):=by decide +kernel
theorem q8:bootBuiltins "divmod"=some (.builtin "divmod"):=by decide +kernel
theorem yH:bootBuiltins "all"=some (.builtin "all"):=by decide +kernel
theorem cM:bootBuiltins "repr"=some (.builtin "repr"):=by decide +kernel
theorem bM:bootBuiltins "isinstance"=some (.builtin "isinstance"):=by decide +kernel
theorem lj:bootBuiltins "list"=some (.type "list"):=by decide +kernel
theorem mT:bootBuiltins "tuple"=some (.type "tuple"):=by decide +kernel
theorem uS:bootBuiltins "int"=some (.type "int"):=by decide +kernel
theorem oK:bootBuiltins "str"=some (.type "str"):=by decide +kernel
theorem yG:bootBuiltins "set"=some (.type "set"):=by decide +kernel
theorem pP:bootBuiltins "dict"=some (.type "dict"):=by decide +kernel
def Def(P:Program)(w:World)(K:WB)(mg:Str→Option Value)(base:Heap)(x:Str)(k:Nat)(ps:List Str)(sp:Sp):Prop:=
 ∃ f fd,mg x=some (.ref f)∧PySem.W.keepIn K (.ref f)=true∧ce K fd ps []∧cC P w K mg base CX0 k f fd ps sp
theorem bx{x:Str}{k:Nat}{ps:List Str}{sp:Sp}{p pos:Pos}{e:Expr}{es:List Expr}{t:TA}(D:Def X.prog X.w X.K X.mg X.base x k ps sp)(hr:aO k X.A)(hg:Gl X x)(ha:PA X (e::es) t)
  (hdb:(x==("__debug__":Str))=false:=by decide) (he:starEach (e::es) X.env=(false,eval e X.env)::starEach es X.env:=by rfl) (hpl:(backTo pos (starEach es X.env)).any (·.1)=false:=by rfl) :
  PE X (.Call (.Name x p) (e::es) [] pos) (iQ sp [] E0 t):=by
 obtain⟨f,fd,hm,hk,hb,F⟩:=D
 exact pz F hr hg hm hk hb .nil lR ha hdb he hpl
structure ah(K:WB)(mg:Str→Option Value)(x:Str)(st:Stmt)(ps:List Str):Prop where
 ex:∃ f fd,Fun K x x st f fd∧mg x=some (.ref f)∧ce K fd ps []
theorem ah.mk'{P:Program}{w:World}{K:WB}{mg:Str→Option Value}{base:Heap}{x:Str}{st:Stmt}{N ps:List Str}{k:Nat}{sp:Sp}(F:ah K mg x st ps)(S:ai N ps (ag st))(len:∀ vs H Q E,sp vs H Q E→vs.length=ps.length)
  (hbody:∀ (f:Addr) (cdv:Value) (A:Around) (outer:List Env) (s:Shared) (H:Hp) (vs:List V) (Q:VK) (E:XK),aO k (A.deeper (envOfC x (ag st) s.heap.objs.size f cdv))→sp vs H Q E→
   ∃ t,PSs (jx CX0 P w K mg base N x (ag st) f cdv A outer s H E).nox (bD st) t∧t {nx:=fun _ H'=>Q .non H',rt:=Q} (cq N vs) H):Def P w K mg base x (k+1) ps sp:=by
 obtain⟨f,fd,Fn,hm,hb⟩:=F.ex
 exact⟨f,fd,hm,Fn.kp,hb,Fn.ok S len (hbody f)⟩
theorem tU{X:Cx}:∀ v s,¬ (X.nox).xe v s:=fun _ _ z=>z
def av(p:Addr)(H H':Hp):Prop:=∀ b o,b≠p→H b=some o→H' b=some o
theorem av.trans{p:Addr}{H H1 H2:Hp}(a:av p H H1)(b:av p H1 H2):av p H H2:=fun c o n h=>b c o n (a c o n h)
theorem av.refl(p:Addr)(H:Hp):av p H H:=fun _ _ _ h=>h
theorem av.upd(p:Addr)(H:Hp)(o:HO):av p H (upd H p o):=fun b u n h=>by rw [ae n]; exact h
theorem ac{H:Hp}{p:Addr}(h:H p=none)(o:HO):al H (upd H p o):=fun b u e=>by rw [ae (af e h)]; exact e
theorem al.x{p:Addr}{H H':Hp}(a:al H H'):av p H H':=fun b o _ h=>a b o h
end
theorem av.same{p:Addr}{H H1 H2:Hp}(a:av p H H1)(b:al H1 H2):av p H H2:=fun c o n h=>b c o (a c o n h)
theorem av.free{p:Addr}{H H':Hp}(e:av p H H'){l:Addr}(n:l≠p)(h:H' l=none):H l=none:=by
 cases q:H l with
 | none=>rfl
 | some o=>rw [e l o n q] at h; cases h
theorem aH{α:Type}{xs:List α}{i:Int}{x:α}(h0:0≤i)(h:xs[i.toNat]? = some x):atI xs i=some x:=by
 have:=pR h
 rwa [Int.toNat_of_nonneg h0] at this
theorem y3{n:Nat}{i:Int}(h0:0≤i)(h1:i<n):seqIndex? i n=some i.toNat:=by
 unfold seqIndex?
 simp [show ¬ (i<0) by omega,h0,h1]
structure ik(n:Nat)(N' N:List Str)(osc scope:Scope):Prop where
 kind:scope.kind=.function
 names:∀ x∈scope.names,x.2=.local→scope.names.lookup x.1=some .local
 cell:∀ x∈scope.names,x.2≠.cell
 free:∀ x∈scope.names,x.2=.free→osc.names.lookup x.1=some .cell∨osc.names.lookup x.1=some .free
 nd:N'.Nodup
 len:N'.length=n+N.length
 look:ui n N' N scope.names=true
theorem ik.at{X:Cx}{n:Nat}{N':List Str}{scope:Scope}(h:ik n N' X.N X.env.scope scope):aK n N' X scope:=⟨h.kind,h.names,h.cell,h.free,h.nd,h.len,h.look⟩
end L2
set_option maxHeartbeats 4000000
namespace L2
open PySem PySem.Spec PyProof.Rows
mutual
inductive RdV(R:Addr→Prop)(H:Hp):V→PyData→Prop where
 | non:RdV R H .non .none
 | bl (b:Bool):RdV R H (.bl b) (.bool b)
 | int (i:Int):RdV R H (.int i) (.int i)
 | str (x:Str):RdV R H (.str x) (.str x)
 | lst {a:Addr} {xs:List V} {ds:List PyData}:R a→H a=some (.lst xs)→RdA R H xs ds→RdV R H (.ref a) (.list ds)
 | tup {a:Addr} {xs:List V} {ds:List PyData}:R a→H a=some (.tup xs)→RdA R H xs ds→RdV R H (.ref a) (.tuple ds)
inductive RdA(R:Addr→Prop)(H:Hp):List V→List PyData→Prop where
 | nil:RdA R H [] []
 | cons {x:V} {xs:List V} {d:PyData} {ds:List PyData}:RdV R H x d→RdA R H xs ds→RdA R H (x::xs) (d::ds)
end
mutual
theorem RdV.mono{R R':Addr→Prop}{H H':Hp}(hR:∀ a,R a→R' a)(hH:∀ a o,R a→H a=some o→H' a=some o):∀ {x:V} {d:PyData},RdV R H x d→RdV R' H' x d
 | _,_,.non=>.non
 | _,_,.bl b=>.bl b
 | _,_,.int i=>.int i
 | _,_,.str x=>.str x
 | _,_,.lst r e z=>.lst (hR _ r) (hH _ _ r e) (RdA.mono hR hH z)
 | _,_,.tup r e z=>.tup (hR _ r) (hH _ _ r e) (RdA.mono hR hH z)
theorem RdA.mono{R R':Addr→Prop}{H H':Hp}(hR:∀ a,R a→R' a)(hH:∀ a o,R a→H a=some o→H' a=some o):∀ {xs:List V} {ds:List PyData},RdA R H xs ds→RdA R' H' xs ds
 | _,_,.nil=>.nil
 | _,_,.cons a b=>.cons (RdV.mono hR hH a) (RdA.mono hR hH b)
end
mutual
def cZ:PyData→Bool
 | .list _=>false
 | .tuple ds=>bF ds
 | _=>true
def bF:List PyData→Bool
 | []=>true
 | d::r=>cZ d&&bF r
end
mutual
theorem RdV.monoT{R R':Addr→Prop}{H H':Hp}(hR:∀ a,R a→R' a)(hH:∀ a xs,H a=some (.tup xs)→H' a=some (.tup xs)):∀ {x:V} {d:PyData},cZ d=true→RdV R H x d→RdV R' H' x d
 | _,_,_,.non=>.non
 | _,_,_,.bl b=>.bl b
 | _,_,_,.int i=>.int i
 | _,_,_,.str x=>.str x
 | _,_,h,.lst r e z=>by simp [cZ] at h
 | _,_,h,.tup r e z=>.tup (hR _ r) (hH _ _ e) (RdA.monoT hR hH (by simpa [cZ] using h) z)
theorem RdA.monoT{R R':Addr→Prop}{H H':Hp}(hR:∀ a,R a→R' a)(hH:∀ a xs,H a=some (.tup xs)→H' a=some (.tup xs)):∀ {xs:List V} {ds:List PyData},bF ds=true→RdA R H xs ds→RdA R' H' xs ds
 | _,_,_,.nil=>.nil
 | _,_,h,.cons a b=>by
  simp only [bF,YW] at h
  exact .cons (RdV.monoT hR hH h.1 a) (RdA.monoT hR hH h.2 b)
end
section
variable{R:Addr→Prop}{H H':Hp}{v:V}{xs ys:List V}{ds es:List PyData}{d:PyData}
theorem RdV.same(hs:al H H')(h:RdV R H v d):RdV R H' v d:=h.mono (fun _ r=>r) fun a o _ e=>hs a o e
theorem RdA.same(hs:al H H')(h:RdA R H xs ds):RdA R H' xs ds:=h.mono (fun _ r=>r) fun a o _ e=>hs a o e
theorem RdV.list_inv(h:RdV R H v (.list ds)):∃ a xs,v=.ref a∧R a∧H a=some (.lst xs)∧RdA R H xs ds:=by cases h with | lst r e z=>exact⟨_,_,rfl,r,e,z⟩
theorem RdV.tuple_inv(h:RdV R H v (.tuple ds)):∃ a xs,v=.ref a∧R a∧H a=some (.tup xs)∧RdA R H xs ds:=by cases h with | tup r e z=>exact⟨_,_,rfl,r,e,z⟩
theorem RdV.str_inv{x:Str}(h:RdV R H v (.str x)):v=.str x:=by cases h; rfl
theorem RdA.length:∀ {xs:List V} {ds:List PyData},RdA R H xs ds→xs.length=ds.length
 | _,_,.nil=>rfl
 | _,_,.cons _ t=>by rw [YR,YR,RdA.length t]
theorem RdA.getV:∀ {xs:List V} {ds:List PyData} {i:Nat} {x:V},RdA R H xs ds→xs[i]? = some x→∃ d,ds[i]? = some d∧RdV R H x d
 | _,_,_,_,.nil,h=>by simp at h
 | _,_,0,_,.cons a t,h=>by simp at h; subst h; exact⟨_,rfl,a⟩
 | _,_,i+1,_,.cons a t,h=>by simpa using RdA.getV (i:=i) t (by simpa using h)
theorem RdA.append:∀ {xs ys:List V} {ds es:List PyData},RdA R H xs ds→RdA R H ys es→RdA R H (xs++ys) (ds++es)
 | _,_,_,_,.nil,h=>h
 | _,_,_,_,.cons a t,h=>.cons a (RdA.append t h)
theorem RdA.snoc(h:RdA R H xs ds)(a:RdV R H v d):RdA R H (xs++[v]) (ds++[d]):=h.append (.cons a .nil)
theorem RdA.strs:∀ ws:List Str,RdA R H (ws.map V.str) (ws.map PyData.str)
 | []=>.nil
 | x::r=>.cons (.str x) (RdA.strs r)
theorem RdA.strs_inv:∀ {ws:List Str} {xs:List V},RdA R H xs (ws.map PyData.str)→xs=ws.map V.str
 | [],_,.nil=>rfl
 | _::_,_,.cons a t=>by rw [RdV.str_inv a,RdA.strs_inv t]; rfl
theorem RdA.two(h:RdA R H xs [d,e]):∃ x y,xs=[x,y]∧RdV R H x d∧RdV R H y e:=by
 cases h with | cons a t=>cases t with | cons b t=>cases t; exact⟨_,_,rfl,a,b⟩
theorem RdA.three{f:PyData}(h:RdA R H xs [d,e,f]):∃ x y z,xs=[x,y,z]∧RdV R H x d∧RdV R H y e∧RdV R H z f:=by
 cases h with | cons a t=>cases t with | cons b t=>cases t with | cons c t=>cases t; exact⟨_,_,_,rfl,a,b,c⟩
end
inductive fF:List Expr→List Str→Prop where
 | nil:fF [] []
 | cons {x:Str} {j:Nat} {pos:Pos} {es:List Expr} {ws:List Str}:fF es ws→fF (.Constant (.str x) j pos::es) (x::ws)
def wU(ws:List Str):TA:=fun _ H Q=>Q (ws.map V.str) H
theorem vD{X:Cx}{es:List Expr}{ws:List Str}(h:fF es ws):PA X es (wU ws):=by
 induction h with
 | nil=>exact am
 | cons h ih=>
  rename_i x j pos es ws
  intro pos' pins s σ H Q I hq
  exact ad (te:=tC (.str x)) (t:=wU ws) aA ih rfl pos' pins s σ H Q I hq
section
variable{X:Cx}
theorem az{sc:Scope}{x:Str}(h:sc.names.lookup x=some .local):Vis sc x:=.inl h
theorem zE{sc:Scope}{x:Str}(h:sc.names.lookup x=some .cell):Vis sc x:=.inr (.inl h)
theorem yP{scope:Scope}{env:Env}{x:Str}(h:scope.names.lookup x=some .free):Vis (relabel scope env) x:=by
 have e:(relabel scope env).names.lookup x=_:=bR
 rw [h] at e
 simp only [XM] at e
 split at e
 ·exact .inr (.inl e)
 ·exact .inr (.inr e)
theorem rz{scope:Scope}{env:Env}{x:Str}(h:scope.names.lookup x=some .local):Vis (relabel scope env) x:=.inl (lookup_relabel_local h)
theorem wm{scope:Scope}{env:Env}{x:Str}(h:scope.names.lookup x=some .local):Loc (relabel scope env) x:=.inl (lookup_relabel_local h)
theorem glO{scope:Scope}{env:Env}{x:Str}(h:scope.names.lookup x=some .globalImplicit):(relabel scope env).names.lookup x=some .globalImplicit:=by
 have e:(relabel scope env).names.lookup x=_:=bR
 rw [h] at e
 exact e
theorem pq(i:Nat){x:Str}{pos:Pos}(hv:Vis X.env.scope x)(hd:(x==("__debug__":Str))=false)(hcd:(x==("__classdict__":Str))=false)(hN:X.N[i]? = some x:=by rfl):PE X (.Name x pos) (tVar i):=sF hN hv hd hcd
end
section
variable{P:Program}{w:World}{A:Around}{E:Value→Shared→Prop}
theorem mJ{it l:Addr}{its:Array Value}(ne:l≠it)(n:Nat):∀ (i:Nat) (s:Shared) (Q:List Value→Shared→Prop),s.heap.IsListIter it l i→s.heap.IsList l its→i+n≤its.size→
  (∀ h',h'.IsListIter it l (i+n)→XI it s.heap h'→Q ((its.toList.drop i).take n) {s with heap:=h'})→wpAny (model P w) A (draw (.ref it) n) Q E s:=by
 induction n with
 | zero=>
  intro i s Q a _ _ q
  have q0:=q s.heap a (XI.refl ..)
  rw [List.take_zero] at q0
  exact YB q0
 | succ n ih=>
  intro i s Q a b le q
  have lt:i<its.size:=by omega
  refine Yz (m:=pyNext (.ref it)) (wpAny_pyNext_list_item a b (x:=its[i]) (by simp [lt]) fun h1 a1 s1=>?_)
  refine Yz (wpAny_holding (ih (i+1) _ _ a1 (b.extBut s1.extBut ne) (by omega) fun h2 a2 s2=>?_))
  refine YB ?_
  have q2:=q h2 (by rw [Nat.add_comm n 1,← Nat.add_assoc]; exact a2) (s1.trans s2)
  have e:its.toList.drop i=its[i]::its.toList.drop (i+1):=by simp [List.drop_eq_getElem_cons,lt]
  rwa [e,List.take_succ_cons] at q2
theorem ng{s:Shared}{l:Addr}{its:Array Value}{ts:List (Bool×(Value→Sem Unit))}{Q:Unit→Shared→Prop}(hh:A.handled=none)(hl:s.heap.IsList l its)(hn:ts.length=its.size)(hs:ts.findIdx? (·.1)=none)
  (q:∀ h',Heap.ExtBut s.heap.objs.size s.heap h'→wpAny (model P w) A (assignInOrder (ts.map (·.2)) its.toList) Q E {s with heap:=h'}):wpAny (model P w) A (unpack (.ref l) ts) Q E s:=by
 have ne:l≠s.heap.objs.size:=by
  obtain⟨o,e,_⟩:=hl
  exact YT (YF e)
 unfold unpack
 rw [hs,hn]
 refine Yz (wpAny_holding ?_)
 unfold unpackItems notIterableAtAll
 refine Yz (Yz (wpAny_specialOf hl.typeIs slot_list_iter.lookup (YB ?_)))
 simp only [XF,if_false]
 refine Yz (wpAny_holding (wpAny_pyIter_list hl ?_))
 refine Yz (wpAny_holding (mJ ne its.size 0 _ _ ⟨_,YJ _ rfl,rfl,rfl⟩ (hl.push _) (by omega) fun h1 a1 s1=>?_))
 have all:(its.toList.drop 0).take its.size=its.toList:=by simp [XS]
 rw [all,if_neg (by simp)]
 refine Yz (wpAny_holding (wpAny_pyNext_list_end hh a1 ((hl.push _).extBut s1.extBut ne) (by simp) fun h2 e2=>?_))
 simp only [Option.isSome_none,XF,if_false]
 exact YB (q h2 fun b o nb e=>e2 b o nb (s1.extBut b o nb (YA _ e)))
end
section
variable{X:Cx}{pos:Pos}
inductive gSeq(K:WB)(n:Nat)(t:TGs)(v:V)(σ:St)(H:Hp)(Q:St→Hp→Prop):Prop | mk (a xs) (_:v=.ref a) (_:(SqL K H a xs∨SqT K H a xs)) (_:xs.length=n) (_:t xs σ H Q)
theorem xM{es:List Expr}{k:Nat}{t:TGs}{n:Nat}(hc:X.calm=true)(h:PGs X es t)(hn:(assignEach es X.env).length=n:=by rfl)(hst:(assignEach es X.env).findIdx? (·.1)=none:=by rfl):PG X (.Tuple es k pos) (gSeq X.K n t):=by
 intro pins s σ H v u Q I r hw
 obtain⟨a,xs,rfl,hq | hq,hl,hw⟩:=hw
 ·cases r
  obtain⟨its,rv,pl,hz⟩:=I.list hq
  rw [assign_Tuple]
  refine Yz (wpAny_standAt (ng (I.ok.hd hc) pl.isList (by simp [hn,← hl,rv.length]) hst fun h' hx=>?_))
  have I1:Inv X pins σ H {s with heap:=h'}:=I.kept (t':=s.toks) fun b o e=>hx b o (YT (YF e)) e
  exact h pins _ σ H xs _ Q I1 (by simpa using rv) hw
 ·exact nU hc h hn hst pins s σ H _ u Q I r ⟨a,xs,rfl,hq,hl,hw⟩
end
structure eG(X:Cx)(pins:List (Addr×Obj))(H:Hp)(b:Addr):Prop where
 un:H b=none
 new:b∈X.ex∨X.s₀.heap.get? b=none
 loc:b≠X.env.locals
 cel:∀ x c,X.env.cells.lookup x=some c→c≠b
 pin:∀ p∈X.pn++pins,p.1≠b
section
variable{X:Cx}{pins:List (Addr×Obj)}{σ:List (Option V)}{H:Hp}{s:Shared}{h':Heap}
theorem Inv.fly{t':Nat}{S:List Addr}(I:Inv X pins σ H s)(hS:∀ b∈S,eG X pins H b)(kp:∀ b o,s.heap.get? b=some o→b∉S→b∉frs X.stack→h'.get? b=some o)
  (sl:∀ b o,s.heap.get? b=some o→b∈frs X.stack→∃ w,h'.get? b=some {o with slots:=w}):Inv X pins σ H {s with heap:=h',toks:=t'}:=by
 have nS:∀ b u,H b=some u→b∉S:=fun b u e z=>by rw [(hS b z).un] at e; cases e
 have nF:∀ b u,H b=some u→b∉frs X.stack:=fun b u e z=>by rw [I.stkFree b z] at e; cases e
 have neL:∀ b o,X.s₀.heap.get? b=some o→b≠X.env.locals:=fun b o e=>YT (Y2 (YF e) I.ok.above)
 have neC:∀ b o,X.s₀.heap.get? b=some o→b∉X.ex→b∉S:=fun b o e hx hb=>by
  rcases(hS b hb).new with z | z
  ·exact hx z
  ·rw [z] at e; cases e
 have stkL:∀ b,b∈frs X.stack→b≠X.env.locals→b∈X.fs:=fun b hb n=>(YM.mp (I.stkSub b hb)).elim (fun z=>absurd z n) id
 have any:∀ b o,s.heap.get? b=some o→b∉S→∃ w,h'.get? b=some {o with slots:=w}:=fun b o e n=>by
  by_cases hb:b∈frs X.stack
  ·exact sl b o e hb
  ·exact⟨o.slots,kp b o e n hb⟩
 have cellK:∀ x c,X.env.cells.lookup x=some c→∀ v,s.heap.IsCell c v→h'.IsCell c v:=fun x c e v ⟨o,ho,hd⟩=>by
  obtain⟨w,q⟩:=any c o ho fun z=>(hS c z).cel x c e rfl
  exact⟨_,q,hd⟩
 refine⟨I.ok,I.os,I.bare,⟨fun b o e n hb hx=>?_,fun b o e n hb hx=>?_,fun b o e n hx=>I.base.free b o e n hx,fun b o e hx=>?_,I.base.tups,I.base.frzs,I.base.tbls⟩,?_,fun x c e=>?_,I.free,I.freeC,fun p hp=>?_,fun b u e=>?_,I.len⟩
 ·exact kp b o (I.base.keep b o e n hb hx) (neC b o e hx) fun z=>hb (stkL b z (neL b o e))
 ·obtain⟨w,e1⟩:=I.base.slot b o e n hb hx
  obtain⟨w',e2⟩:=any b _ e1 (neC b o e hx)
  exact⟨w',e2⟩
 ·obtain⟨o',e1⟩:=I.base.there b o e hx
  obtain⟨w,e2⟩:=any b o' e1 (neC b o e hx)
  exact⟨_,e2⟩
 ·obtain⟨m,⟨o,es,ep,ho,r⟩,hl⟩:=I.loc
  obtain⟨w,q⟩:=any _ o ho fun z=>(hS _ z).loc rfl
  refine⟨m,⟨_,es,ep,q,r⟩,fun i x v e1 e2 e3=>?_⟩
  obtain⟨u,r,l⟩:=hl i x v e1 e2 e3
  refine⟨u,r,?_⟩
  rcases l with l | ⟨k,c,e,z⟩
  ·exact .inl l
  ·exact .inr ⟨k,c,e,cellK x c e _ z⟩
 ·obtain⟨v,z⟩:=I.cell x c e
  exact⟨v,cellK x c e v z⟩
 ·obtain⟨e,n,ne,nf,d⟩:=I.pin p hp
  exact⟨kp p.1 p.2 e (fun z=>(hS p.1 z).pin p hp rfl) fun z=>nf (stkL _ z ne),n,ne,nf,d⟩
 ·refine(I.hok b u e).stay (fun c v hc q=>?_) (fun _ q=>q) fun _ _ q=>q
  rcases hc with z | z
  ·subst z; exact kp _ v q (nS _ u e) (nF _ u e)
  ·exact kp c v q (nS c _ z) (nF c _ z)
end
inductive Exc(h:Heap)(a:Addr)(cls:Value)(dx:Option Addr):Option Value→List Addr→Prop where
 | made {oe:Obj} {vs:Array Value} {a0:Value}:h.get? a=some oe→oe.cls=cls→oe.dict=dx→oe.data=.fields vs→vs[0]? = some a0→vs[1]? = some .none→Exc h a cls dx none [a]
 | ent {oe oT:Obj} {vs ts:Array Value} {a0 fl:Value} {T:Addr}:h.get? a=some oe→oe.cls=cls→oe.dict=dx→oe.data=.fields vs→vs[0]? = some a0→vs[1]? = some (.ref T)→T≠a→h.get? T=some oT→oT.data=.fields ts→ts[3]? = some fl→Exc h a cls dx (some fl) [a,T]
def XEk(p:Option Value→Addr→Prop)(X:Cx)(E:XK):Value→Shared→Prop:=fun e s=>∃ (a L:Addr) (cls:Value) (dx:Option Addr) (σ:St) (H:Hp) (fl:Option Value) (S:List Addr) (env0:Env) (rest:List Env),e=.ref a∧X.stack=env0::rest∧env0.frame=some L∧X.env.frame=some L∧
 Inv X [] σ H s∧Exc s.heap a cls dx fl S∧p fl L∧(∀ b∈S,eG X [] H b)∧E cls dx H
def XE:Cx→XK→Value→Shared→Prop:=XEk fun _ _=>True
def bU:Cx→XK→Value→Shared→Prop:=XEk fun fl L=>fl=some (rawInt L)
def uW:Cx→XK→Value→Shared→Prop:=XEk fun fl L=>fl=some .none
theorem XEk.imp{p q:Option Value→Addr→Prop}{X:Cx}{E:XK}{e:Value}{s:Shared}(h:XEk p X E e s)(k:∀ fl L,p fl L→q fl L):XEk q X E e s:=by
 obtain⟨a,L,cls,dx,σ,H,fl,S,env0,rest,h1,h2,h3,h4,h5,h6,h7,h8⟩:=h
 exact⟨a,L,cls,dx,σ,H,fl,S,env0,rest,h1,h2,h3,h4,h5,h6,k _ _ h7,h8⟩
theorem bU.xe{X:Cx}{E:XK}{e:Value}{s:Shared}(h:bU X E e s):XE X E e s:=XEk.imp h fun _ _ _=>trivial
theorem iy{e:Value}{env env':Env}(h:env.frame=env'.frame):noteFrame e env=noteFrame e env':=by
 unfold noteFrame PySem.frameOf
 rw [h]
section
variable{P:Program}{w:World}{H:Hp}{h:Heap}{a:Addr}{o:HO}
theorem aM.there(x:aM P w H h a o):∃ ob,h.get? a=some ob:=by
 induction o with
 | lst xs=>obtain⟨_,_,_,_,e⟩:=x; exact⟨_,e⟩
 | tup xs=>obtain⟨_,_,_,o,e,_⟩:=x; exact⟨_,e⟩
 | dK kvs=>obtain⟨_,_,_,_,o,_,_,e,_⟩:=x; exact⟨_,e⟩
 | dT kvs=>obtain⟨_,_,_,_,o,_,_,e,_⟩:=x; exact⟨_,e⟩
 | set S n=>obtain⟨o,_,_,_,e,_⟩:=x; exact⟨_,e⟩
 | ins C dx fs=>obtain⟨_,_,_,e,_⟩:=x; exact⟨_,e⟩
 | own y=>exact x
 | xd fs=>obtain⟨_,⟨o,_,_,e,_⟩,_⟩:=x; exact⟨_,e⟩
 | met f y=>exact⟨_,x⟩
 | rng lo hi=>obtain⟨_,_,_,e⟩:=x; exact⟨_,e⟩
 | frz o u ih=>exact⟨_,x.1⟩
 | tbl ps=>exact⟨_,x⟩
 | ext φ=>exact x.2.1
end
section
variable{X:Cx}{pins:List (Addr×Obj)}{σ:List (Option V)}{H:Hp}{s:Shared}{h':Heap}
theorem Inv.loose{b:Addr}(I:Inv X pins σ H s)(e:s.heap.get? b=none):eG X pins H b:=by
 have no:∀ {c:Addr} {o:Obj},s.heap.get? c=some o→c≠b:=fun q z=>by rw [z,e] at q; cases q
 refine⟨?_,?_,?_,fun x c hc=>?_,fun p hp=>no (I.pin p hp).1⟩
 ·cases q:H b with
  | none=>rfl
  | some o=>
   obtain⟨ob,z⟩:=aM.there (I.hok b o q)
   exact absurd rfl (no z)
 ·by_cases hx:b∈X.ex
  ·exact .inl hx
  ·refine .inr ?_
   cases q:X.s₀.heap.get? b with
   | none=>rfl
   | some o=>
    obtain⟨o',z⟩:=I.base.there b o q hx
    exact absurd rfl (no z)
 ·obtain⟨m,⟨o,_,_,ho,_⟩,_⟩:=I.loc
  exact(no ho).symm
 ·obtain⟨v,o,ho,_⟩:=I.cell x c hc
  exact no ho
theorem AA{M:Model}{A:Around}{EE:Value→Shared→Prop}{s:Shared}{g:Heap}{ev:Env}{outer:List Env}{L a:Addr}{oe:Obj}{vs:Array Value}{head:Value}{nx:Bool}{Q:Unit→Shared→Prop}
  (hfr:A.frames=some (ev::outer)) (hl:s.heap.FunFrames g (ev::outer)) (hf:ev.frame=some L) (he:s.heap.get? a=some oe) (hd:oe.data=.fields vs) (hz:1<vs.size)
  (k:∀ (h':Heap) (T:Addr) (ts:Array Value),(∀ b o,s.heap.get? b=some o→b≠a→b∉frs (ev::outer)→h'.get? b=some o)→(∀ b o,s.heap.get? b=some o→b∈frs (ev::outer)→∃ w,h'.get? b=some {o with slots:=w})→
   h'.get? a=some (Obj.mapFields (·.setIfInBounds 1 (.ref T)) oe)→s.heap.get? T=none→h'.get? T=some {cls:=.type "traceback",data:=.fields ts}→ts[3]? = some (rawInt L)→Q () {s with heap:=h'}) :
  wpAny M A (do let f ← frameOf ev; let pl ← entryPlaceOf L nx; let b ← EntryCells.newEntry head f .none (rawInt L) .none pl; setField (.ref a) 1 b) Q EE s:=by
 have na:a∉frs (ev::outer):=fun m=>by
  obtain⟨_,o,q,nf⟩:=hl.mem m
  rw [he] at q
  cases q
  exact nf vs hd
 refine Yz (wpAny_frameOf_fun hfr hl hf fun g1 sl=>Yz (wpAny_entryPlaceOf fun pl ip=>?_))
 unfold EntryCells.newEntry newFields
 refine Yz (wpAny_newObj_type ?_ (ip.sizeOk5 _ _ _ _ _))
 have e1:g1.get? a=some oe:=by rw [sl.2.1 a na]; exact he
 refine wpAny_setField (YA _ e1) hd hz ?_
 have lt:=YF e1
 have oth:∀ (u:Obj) (b:Addr),b≠a→((g1.push u).update a (Obj.mapFields (·.setIfInBounds 1 (Value.ref g1.objs.size)))).get? b=(g1.push u).get? b:=fun u b n=>XY _ _ (Ne.symm n)
 have nw:s.heap.get? g1.objs.size=none:=by
  cases q:s.heap.get? g1.objs.size with
  | none=>rfl
  | some o=>
   obtain⟨w,z⟩:=sl.2.2 _ o q
   exact absurd (YF z) (Nat.lt_irrefl _)
 refine k _ g1.objs.size _ (fun b o q n nf=>?_) (fun b o q m=>?_) (X1 _ (YA _ e1) (Obj.isFreed_of_fields (Obj.data_mapFields hd _))) nw ((oth _ _ (X3 lt)).trans (YJ _ rfl)) ?_
 ·rw [oth _ _ n]
  exact YA _ ((sl.2.1 b nf).trans q)
 ·obtain⟨w,z⟩:=sl.2.2 b o q
  exact⟨w,by rw [oth _ _ fun y=>na (y▸m)]; exact YA _ z⟩
 ·first
   | (simp; done)
   | (rcases ip with rfl | ⟨_,_,_,_,_,_,_,rfl⟩ <;> simp)
theorem XE.note{E:XK}{e:Value}{EE:Value→Shared→Prop}(h:XE X E e s):wpAny (model X.prog X.w) X.A (noteFrame e X.env) (fun _ s'=>bU X E e s') EE s:=by
 obtain⟨a,L,cls,dx,σ,H,fl,S,env0,rest,rfl,hs,hf0,hf,I,ex,hp,hS,hE⟩:=h
 rw [iy (hf.trans hf0.symm)]
 have hfr:X.A.frames=some (env0::rest):=by rw [I.ok.frames,hs]
 have put:∀ {s1:Shared} {oe:Obj} {vs:Array Value} {a0 head:Value} {nx:Bool},Inv X [] σ H s1→a∈S→s1.heap.get? a=some oe→oe.cls=cls→oe.dict=dx→oe.data=.fields vs→1<vs.size→vs[0]? = some a0→
   wpAny (model X.prog X.w) X.A (do let f ← frameOf env0; let pl ← entryPlaceOf L nx; let b ← EntryCells.newEntry head f .none (rawInt L) .none pl; setField (.ref a) 1 b) (fun _ s'=>bU X E (.ref a) s') EE s1:=by
  intro s1 oe vs a0 head nx I1 ha he hc hx hd hz h0
  have hl:s1.heap.FunFrames X.base (env0::rest):=by rw [← hs]; exact I1.stack
  refine AA hfr hl hf0 he hd hz fun h' T ts kp sl e1 nw eT e3=>?_
  rw [← hs] at kp sl
  have I2:Inv X [] σ H {s1 with heap:=h'}:=I1.fly (t':=s1.toks) hS (fun b o q n nf=>kp b o q (fun z=>n (z▸ha)) nf) sl
  have nT:T≠a:=fun z=>by rw [z,he] at nw; cases nw
  exact⟨a,L,cls,dx,σ,H,_,[a,T],env0,rest,rfl,hs,hf0,hf,I2,.ent e1 ((Obj.cls_mapFields _ _).trans hc) (by rw [← hx]; unfold Obj.mapFields; split <;> rfl) (Obj.data_mapFields hd _) (by rw [Array.getElem?_setIfInBounds_ne (by decide)]; exact h0) (by simp [hz]) nT eT rfl e3,rfl,fun b hb=>by
   rcases YM.mp hb with rfl | hb
   ·exact hS _ ha
   ·rw [YK.mp hb]; exact I1.loose nw,hE⟩
 cases ex with
 | made he hc hx hd h0 h1=>
  unfold noteFrame
  simp only [hf0]
  refine Yz (wpAny_field he hd h1 ?_)
  rw [if_neg (by decide)]
  exact put I (by simp) he hc hx hd (X2.mp h1).1 h0
 | @ent oe oT vs ts a0 fl T he hc hx hd h0 h1 hTa hT hdT h3=>
  by_cases hb:(fl==rawInt L)=true
  ·obtain rfl:=eq_of_beq hb
   exact wpAny_noteFrame_againW (base:=PySem.W.hideAll s.heap [T]) hf0 ⟨oe,vs,T,oT,ts,he,⟨hc,h0⟩,hd,h1,PySem.W.hideAll_none _ (by simp),hTa,hT,hdT,h3⟩ ⟨a,L,cls,dx,σ,H,_,_,env0,rest,rfl,hs,hf0,hf,I,.ent he hc hx hd h0 h1 hTa hT hdT h3,rfl,hS,hE⟩
  ·have h3s:3<ts.size:=(X2.mp h3).1
   unfold noteFrame
   simp only [hf0]
   refine Yz (wpAny_field he hd h1 ?_)
   rw [if_pos (show (Value.ref T != Value.none)=true from by simp)]
   refine Yz (wpAny_field hT hdT h3 ?_)
   rw [if_neg hb]
   refine Yz (wpAny_setField hT hdT h3s ?_)
   have other:∀ b,b≠T→(s.heap.update T (Obj.mapFields (·.setIfInBounds 3 Value.none))).get? b=s.heap.get? b:=fun b n=>XY _ _ (Ne.symm n)
   have nT:∀ b∈frs X.stack,b≠T:=fun b hb z=>by
    obtain⟨_,o',e',nf⟩:=I.stack.mem hb
    rw [z,hT] at e'; cases e'
    exact nf ts hdT
   have I1:=I.fly (t':=s.toks) (h':=s.heap.update T (Obj.mapFields (·.setIfInBounds 3 Value.none))) hS (fun b o q n _=>by rw [other b (fun z=>n (by simp [z]))]; exact q) fun b o q hb=>⟨o.slots,by rw [other b (nT b hb)]; exact q⟩
   exact put I1 (by simp) ((other a (Ne.symm hTa)).trans he) hc hx hd (X2.mp h1).1 h0
end
section
variable{X:Cx}{E:XK}{e:Value}{s:Shared}{EE:Value→Shared→Prop}{M:Model}
theorem XEk.setFl{p:Option Value→Addr→Prop}{A:Around}{f:Option Addr}(h:XEk p X E e s)(hp:∀ fl L,p fl L→fl≠none):
  wpAny M A (setFlight e f) (fun _ s'=>XEk (fun fl _=>fl=some (f.elim Value.none fun f=>rawInt f)) X E e s') EE s:=by
 obtain⟨a,L,cls,dx,σ,H,fl,S,env0,rest,rfl,hs,hf0,hf,I,ex,hp',hS,hE⟩:=h
 cases ex with
 | made=>exact absurd rfl (hp _ _ hp')
 | @ent oe oT vs ts a0 fl T he hc hx hd h0 h1 hTa hT hdT h3=>
  have h3s:3<ts.size:=(X2.mp h3).1
  unfold setFlight
  refine Yz (wpAny_field he hd h1 ?_)
  rw [if_pos (show (Value.ref T != Value.none)=true from by simp)]
  refine wpAny_setField hT hdT h3s ?_
  have other:∀ b,b≠T→(s.heap.update T (Obj.mapFields (·.setIfInBounds 3 (f.elim Value.none fun f=>rawInt f)))).get? b=s.heap.get? b:=fun b n=>XY _ _ (Ne.symm n)
  have self:=X1 (Obj.mapFields (·.setIfInBounds 3 (f.elim Value.none fun f=>rawInt f))) hT (Obj.isFreed_of_fields (Obj.data_mapFields hdT _))
  have I':=I.fly (t':=s.toks) (h':=s.heap.update T (Obj.mapFields (·.setIfInBounds 3 (f.elim Value.none fun f=>rawInt f)))) hS (fun b o q n _=>by rw [other b (fun z=>n (by simp [z]))]; exact q) fun b o q hb=>by
   have n:b≠T:=fun z=>by
    obtain⟨_,o',e',nf⟩:=I.stack.mem hb
    rw [z,hT] at e'; cases e'
    exact nf ts hdT
   exact⟨o.slots,by rw [other b n]; exact q⟩
  exact⟨a,L,cls,dx,σ,H,_,_,env0,rest,rfl,hs,hf0,hf,I',.ent ((other a (Ne.symm hTa)).trans he) hc hx hd h0 h1 hTa self (Obj.data_mapFields hdT _) (by simp [h3s]),rfl,hS,hE⟩
theorem bU.land{A:Around}(h:bU X E e s):wpAny M A (setFlight e none) (fun _ s'=>uW X E e s') EE s:=
 YH (XEk.setFl (f:=none) h fun fl L z=>by rw [z]; simp) (fun _ _ z=>z) fun _ _ z=>z
theorem uW.land{A:Around}(h:uW X E e s):wpAny M A (setFlight e none) (fun _ s'=>uW X E e s') EE s:=
 YH (XEk.setFl (f:=none) h fun fl L z=>by rw [z]; simp) (fun _ _ z=>z) fun _ _ z=>z
theorem bU.hold{A:Around}{env:Env}(hfr:env.frame=X.env.frame)(h:bU X E e s):wpAny M A (setFlight e env.frame) (fun _ s'=>bU X E e s') EE s:=by
 obtain⟨a,L,_,_,_,_,_,_,_,_,_,_,_,hf,_⟩:=id h
 rw [hfr,hf]
 refine YH (XEk.setFl (f:=some L) h fun fl L z=>by rw [z]; simp) (fun _ s' z=>?_) fun _ _ z=>z
 obtain⟨a',L',cls,dx,σ,H,fl,S,env0,rest,h1,h2,h3,h4,h5,h6,h7,h8⟩:=z
 obtain rfl:L=L':=Option.some.inj (hf.symm.trans h4)
 exact⟨a',L,cls,dx,σ,H,fl,S,env0,rest,h1,h2,h3,h4,h5,h6,h7,h8⟩
theorem bU.hasTb{Q:Value→Shared→Prop}{A:Around}(h:bU X E e s)(q:∀ v,(v==Value.none)=false→Q v s):wpAny M A (field e 1) Q EE s:=by
 obtain⟨a,L,cls,dx,σ,H,fl,S,env0,rest,rfl,hs,hf0,hf,I,ex,hp',hS,hE⟩:=h
 cases ex with
 | made=>cases hp'
 | ent he hc hx hd h0 h1=>exact wpAny_field he hd h1 (q _ (by simp))
theorem bU.back{A:Around}{env:Env}(hfr:env.frame=X.env.frame)(h:bU X E e s):cameBackBy M A env (XE X E) e s:=by
 unfold cameBackBy
 refine Yz (h.hasTb fun v hv=>?_)
 rw [hv]
 simp only [XF,if_false]
 exact YH (h.hold hfr) (fun _ _ z=>z.xe) fun _ _ z=>z
theorem bU.passAny{α:Type}{A:Around}{env:Env}{what:String}{Q:α→Shared→Prop}(h:bU X E e s)(k:∀ s',XE X E e s'→EE e s'):wpAny M A (PySem.passOn what e env:Sem α) Q EE s:=by
 unfold PySem.passOn
 refine Yz (h.hasTb fun v hv=>?_)
 rw [hv]
 simp only [XF,if_false]
 exact Yz (YH (XEk.setFl (f:=env.frame) h fun fl L z=>by rw [z]; simp) (fun _ s' z=>wpAny_throw (k s' (XEk.imp z fun _ _ _=>trivial))) fun _ _ z=>z)
theorem qr:PassesOwn (model X.prog X.w) X.A X.env (XE X E):=fun e s h=>by
 unfold notedBy
 exact YH h.note (fun _ s' z=>z.back rfl) fun _ _ z=>z
theorem XE.leave(h:XE X E e s):wpAny (model X.prog X.w) X.A (leaving X.env e) (fun _ s'=>uW X E e s') EE s:=by
 unfold leaving
 exact Yz (YH h.note (fun _ s' z=>z.land) fun _ _ z=>z)
end
def CX1(P:Program)(w:World):CXT:=fun outer H s E e s'=>∃ (a:Addr) (cls:Value) (dx:Option Addr) (H':Hp) (S:List Addr),e=.ref a∧s'.os=s.os∧AllBare s'.gens∧Un (frs outer) [] H H' s.heap s'.heap∧HOk P w H' s'.heap∧Exc s'.heap a cls dx (some .none) S∧(∀ b∈S,H' b=none∧s.heap.get? b=none)∧E cls dx H'
def cj(X:Cx):Prop:=∃ (L:Addr) (env0:Env) (rest:List Env),X.stack=env0::rest∧env0.frame=some L∧X.env.frame=some L
abbrev Cx.exc(X:Cx)(E:XK):Cx:=X.wish (XE X E)
theorem pA{X:Cx}{E:XK}(fr:cj X):gi (CX1 X.prog X.w) (X.exc E) E:=by
 intro pins σ H s e s' I h
 obtain⟨a,cls,dx,H',S,rfl,ho,hb,un,hok,ex,hS,hE⟩:=h
 obtain⟨L,env0,rest,h1,h2,h3⟩:=fr
 have I0:Inv X pins σ H s:=I.unwish
 have I1:Inv X [] σ H s:=I0.pins_of fun p hp=>by simp at hp
 have I2:Inv X [] σ H' s':=I1.call' (ch:=[]) ho un hok hb fun b z=>by simp at z
 refine⟨a,L,cls,dx,σ,H',_,S,env0,rest,rfl,h1,h2,h3,I2,ex,trivial,fun b z=>?_,hE⟩
 obtain⟨u,n⟩:=hS b z
 obtain⟨_,l2,l3,l4,l5⟩:=I1.loose n
 exact⟨u,l2,l3,l4,l5⟩
theorem bL{CX:CXT}{P:Program}{w:World}{K:WB}{mg:Str→Option Value}{base:Heap}{N:List Str}{qual:Str}{scope:Scope}{f:Addr}{cd:Value}{A:Around}{outer:List Env}{s:Shared}{H:Hp}{E:XK}:cj (jx CX P w K mg base N qual scope f cd A outer s H E):=⟨_,_,_,rfl,rfl,rfl⟩
theorem Fun.okE{P:Program}{w:World}{K:WB}{mg:Str→Option Value}{base:Heap}{x qual:Str}{st:Stmt}{f:Addr}{fd:FuncData}{N ps:List Str}{k:Nat}{sp:Sp}(F:Fun K x qual st f fd)(S:ai N ps (ag st))(len:∀ vs H Q E,sp vs H Q E→vs.length=ps.length)
  (hbody:∀ (cdv:Value) (A:Around) (outer:List Env) (s:Shared) (H:Hp) (vs:List V) (Q:VK) (E:XK),aO k (A.deeper (envOfC qual (ag st) s.heap.objs.size f cdv))→sp vs H Q E→
   ∃ t,PSs ((jx (CX1 P w) P w K mg base N qual (ag st) f cdv A outer s H E).exc E) (bD st) t∧t {nx:=fun _ H'=>Q .non H',rt:=Q} (cq N vs) H):cC P w K mg base (CX1 P w) (k+1) f fd ps sp:=by
 obtain⟨oc,od,kV,doc,pm,an,cdv,ct,osl,rfl,lk,hcd⟩:=F.ex
 refine xf lk hcd S len fun A outer s H vs Q E hr hsp=>?_
 obtain⟨t,h,q⟩:=hbody cdv A outer s H vs Q E hr hsp
 refine⟨t,fun pins s1 σ H1 D I hw=>?_,q⟩
 refine YH (h pins s1 σ H1 D (I.wish _) hw) (fun fl s2 z=>z.unwish) fun e s2 z=>?_
 refine YH z.leave (fun _ s3 z3=>?_) fun _ _ z=>z
 obtain⟨a,L,cls,dx,σ',H',fl,S',env0,rest,rfl,hs,hf0,hf,I',ex,hp',hS,hE⟩:=z3
 obtain rfl:fl=some .none:=hp'
 refine⟨a,cls,dx,H',S',rfl,I'.os,I'.bare,I'.base,I'.hok,ex,fun b hb=>⟨(hS b hb).un,?_⟩,hE⟩
 rcases(hS b hb).new with z | z
 ·exact absurd (show b∈([]:List Addr) from z) (by simp)
 ·exact z
abbrev tZ:List Value:=[.type "ValueError",.type "Exception",.type "BaseException",.type "object"]
def cX(K:WB)(mg:Str→Option Value)(x:Str)(C:Addr):Prop:=∀ h:Heap,K.In h→OwnCls x C tZ "ValueError.__new__" mg h
def xm(C:Addr)(E:XK)(t:TA):TS:=fun _ σ H=>t σ H fun vs H1=>vs.length≤sizeLine∧E (.ref C) none H1
theorem sw{X:Cx}{E:XK}{x:Str}{C:Addr}{np cpos pos:Pos}{e:Expr}{es:List Expr}{t:TA}(fr:cj X)(hc:X.calm=true)(O:cX X.K X.mg x C)(hg:Gl X x)(ha:PA (X.exc E) (e::es) t)
  (hdb:(x==("__debug__":Str))=false:=by decide) (he:starEach (e::es) X.env=(false,eval e X.env)::starEach es X.env:=by rfl) (hpl:(backTo cpos (starEach es X.env)).any (·.1)=false:=by rfl) :
  PS (X.exc E) (.Raise (some (.Call (.Name x np) (e::es) [] cpos)) none pos) (xm C E t):=by
 intro pins s σ H D I h
 have O0:=O X.base I.ok.mod.kin
 obtain⟨bm,N,nm,q,bs,hdct,sn,sub,ab,col,dd,k0,k1,k2,k3,k5,mN,hC,hN,hni,T⟩:=O0.obj
 refine wpAny_Raise_call_subU (C:=C) (bm:=bm) (nm:=nm) (q:=q) (N:=N) (bs:=bs) (hdct:=hdct) (sn:=sn) (sub:=sub) (ab:=ab) (col:=col) (dd:=dd) (k0:=k0) (k1:=k1) (k2:=k2) (k3:=k3) (k5:=k5) (mN:=mN)
  PySem.F.excBase_ValueError (by decide +kernel) PySem.F.excBase_ValueError (T.hasType (by decide +kernel)) (I.ok.hd hc) (by rw [show (X.exc E).env=X.env from rfl,he]; show (false||(backTo cpos (starEach es X.env)).any (·.1))=false; rw [hpl]; rfl) hni (fE I hg O0.bound ⟨rfl,?_⟩ hdb)
 have h1:=ha cpos pins s σ H _ I h
 rw [show (X.exc E).env=X.env from rfl,he] at h1 ⊢
 refine Calls.evalArgs_plain (YH h1 (fun vs s2 z=>?_) fun _ _ z=>z)
 obtain⟨ws,H2,I2,rv,hl,hE⟩:=z
 have hk:∀ b o,X.base.get? b=some o→s2.heap.get? b=some o:=I2.bk
 refine⟨rfl,by rw [← rv.length]; exact hl,?_,?_,?_,fun h' a M=>?_⟩
 ·exact hk _ _ hC
 ·exact hN.keeps hk
 ·exact T.keeps hk
 ·obtain⟨tt,g1,g2,g3⟩:=M.there
  obtain⟨L,env0,rest,e1,e2,e3⟩:=fr
  have I3:Inv X [] σ H2 s2:=I2.unwish.pins_of fun p hp=>by simp at hp
  exact⟨a,L,.ref C,none,σ,H2,none,[a],env0,rest,rfl,e1,e2,e3,I3.kept (t':=s2.toks) M.keeps,.made g1 rfl rfl rfl rfl rfl,trivial,fun b hb=>by rw [YK.mp hb]; exact I3.loose M.new,hE⟩
section
variable{X:Cx}{n:Nat}{N':List Str}{scope:Scope}{elt tg iter:Expr}{pos:Pos}{pins:List (Addr×Obj)}{σ:St}{H2:Hp}{s2:Shared}{cl:List (Str×Addr)}
theorem gh{E0:XK}{C:Addr}{fp:List Addr}{x:Value}{s':Shared}(I2:Inv X pins σ H2 s2)(f2:∀ b∈fp,d3 X pins H2 b)(fr:cj X)(h:bU (ak X N' scope cl C fp s2 H2) E0 x s'):
  ∃ m,s'.heap.Ns C m∧∀ h',XI C s'.heap h'→∀ cenv:Env,cenv.locals=C→wpAny (model X.prog X.w) X.A (PySem.passOn "comprehension.variables-let-go" x cenv:Sem Value) (fun _ _=>False) (XE X E0) {s' with heap:=h'}:=by
 obtain⟨a,L,cls,dx,σ',H',fl,S,env0,rest,rfl,hs,hf0,hf,I',ex,hp,hS,hE⟩:=h
 obtain⟨m,hn,_⟩:=I'.loc
 refine⟨m,hn,fun h' sb cenv hc=>?_⟩
 have I0:Inv X [] σ H2 s2:=I2.pins_of fun p hp=>by simp at hp
 have un:Un (frs X.stack) fp H2 H' s2.heap s'.heap:=I'.base
 have IX:Inv X [] σ H' s':=I0.call' (ch:=fp) I'.os un I'.hok I'.bare fun b hb=>by
  obtain⟨f0,f1,ff,f3,f4,f5⟩:=f2 b hb
  exact⟨f3,f1,f4,fun p hp=>f5 p (XC _ (by simpa using hp))⟩
 have lo:∀ b∈S,eG X [] H' b:=fun b hb=>by
  obtain⟨u,nw,_,_,_⟩:=hS b hb
  rcases nw with z | z
  ·obtain⟨f0,f1,ff,f3,f4,f5⟩:=f2 b z
   exact⟨u,f3.imp id X8,Ne.symm (Ne.symm f1),f4,fun p hp=>f5 p (XC _ (by simpa using hp))⟩
  ·obtain⟨_,l2,l3,l4,l5⟩:=I0.loose z
   exact⟨u,l2,l3,l4,l5⟩
 have nC:∀ b∈S,b≠C:=fun b hb=>(hS b hb).loc
 have lC:s2.heap.objs.size≤C:=I'.ok.above
 have cL:eG X [] H' C:=by
  obtain⟨_,l2,l3,l4,l5⟩:=I0.loose (X8 lC)
  exact⟨I'.free,l2,l3,l4,l5⟩
 have nF:C∉frs X.stack:=fun z=>by
  obtain⟨_,o,e,_⟩:=I2.stack.mem z
  exact absurd (YF e) (Nat.not_lt.mpr lC)
 have IY:Inv X [] σ H' {s' with heap:=h'}:=IX.fly (t':=s'.toks) (S:=[C]) (fun b hb=>by rw [YK.mp hb]; exact cL) (fun b o q n1 _=>(sb.2 b (fun z=>n1 (by simp [z]))).trans q) fun b o q hb=>⟨o.slots,(sb.2 b (fun z=>nF (by rw [← z]; exact hb))).trans q⟩
 have exY:Exc h' a cls dx fl S:=by
  cases ex with
  | made he hc hx hd h0 h1=>exact .made ((sb.2 a (nC a (by simp))).trans he) hc hx hd h0 h1
  | @ent oe oT vs ts a0 fl T he hc hx hd h0 h1 hTa hT hdT h3=>exact .ent ((sb.2 a (nC a (by simp))).trans he) hc hx hd h0 h1 hTa ((sb.2 T (nC T (by simp))).trans hT) hdT h3
 have hX:bU X E0 (.ref a) {s' with heap:=h'}:=⟨a,L,cls,dx,σ,H',fl,S,env0,rest,rfl,hs,hf0,hf,IY,exY,hp,lo,hE⟩
 exact hX.passAny fun s'' z=>z
theorem mO{E0:XK}{it:Addr}{fp:List Addr}{tn:Nat→Heap→Prop}{J:It}{g:ay TG}{te:ay TE}{Q:VK}{E:Value→Shared→Prop}
  (hc:X.calm=true) (S:aK n N' X scope) (c1:∀ x c,cl.lookup x=some c→X.env.cells.lookup x=some c) (c2:∀ x∈scope.names,x.2=.free→∃ c,cl.lookup x.1=some c)
  (I2:Inv X pins σ H2 s2) (T:jt X.prog X.w X.K tg J fp it tn) (st2:tn 0 s2.heap) (f2:∀ b∈fp,d3 X pins H2 b)
  (hg:∀ cl C ex s H,PG ((ak X N' scope cl C ex s H).exc E0) tg (g cl C ex s H)) (he:∀ cl C ex s H,PE ((ak X N' scope cl C ex s H).exc E0) elt (te cl C ex s H))
  (cok:∀ cl C ex s Hc,gj n J (g cl C ex s Hc) (te cl C ex s Hc) σ H2 Q) :
  wpAny (model X.prog X.w) X.A (newList []) (fun acc s3=>wpAny (model X.prog X.w) X.A (newFunctionEnv scope X.env.globals cl [] X.env.qual none .none (some X.env)) (fun cenv s4=>
   codeAny (model X.prog X.w) X.A (.compStart (.ListComp elt [⟨tg,iter,[],0⟩] scope pos) 0 (.ref it) acc {cenv with scope:=relabel scope X.env})
    (fun r s'=>match r with | .ok _=>bK X pins σ Q acc cenv.locals s' | .error x=>bU (ak X N' scope cl cenv.locals fp s2 H2) E0 x s') s4) E s3) E s2:=by
 have fl:∀ b∈fp,@LT.lt Nat _ b s2.heap.objs.size:=fun b hb=>by
  obtain⟨o,e,_⟩:=T.obj _ _ st2 b hb
  exact YF e
 have frl:∀ b∈frs X.stack,@LT.lt Nat _ b s2.heap.objs.size:=fun b hb=>by
  obtain⟨_,o,ho,_⟩:=I2.stack.mem hb
  exact YF ho
 have celll:∀ x c,X.env.cells.lookup x=some c→@LT.lt Nat _ c s2.heap.objs.size:=fun x c e=>by
  obtain⟨v,q⟩:=I2.cell x c e
  exact q.lt
 refine wpAny_newObj_type (wpAny_newFunctionEnv S.cell (by intro y hy; simp at hy) (fun h1 hns1 hsb1=>?_) S.kind)
 dsimp only at hns1 hsb1 ⊢
 generalize hH2:s2.heap.push {cls:=.type "list",dict:=none,data:=.seq ([]:List Value).toArray}=G at hns1 hsb1 ⊢
 have hC:@Eq Nat G.objs.size (s2.heap.objs.size+1):=by rw [← hH2,XD]
 have hDC:s2.heap.objs.size≠G.objs.size:=by show @Ne Nat _ _; omega
 have below:∀ b,@LT.lt Nat _ b s2.heap.objs.size→b≠G.objs.size∧b≠s2.heap.objs.size:=fun b hb=>⟨by show @Ne Nat _ _; omega,YT hb⟩
 have old:∀ b o,s2.heap.get? b=some o→h1.get? b=some o:=fun b o e=>hsb1.extBut b o (below b (YF e)).1 (YA _ (hH2▸YA _ e))
 have hacc:h1.get? s2.heap.objs.size=some {cls:=.type "list",data:=.seq ([]:List Value).toArray 0}:=hsb1.extBut _ _ hDC (YA _ (hH2▸YJ _ rfl))
 have hst1:tn 0 h1:=T.keep _ _ _ st2 fun b hb o e=>old b o e
 let X':=ak X N' scope cl G.objs.size fp s2 H2
 obtain⟨W,⟨m0,w0⟩,turn⟩:=cok cl G.objs.size fp s2 H2
 have hXe:X'.xe=X.xe:=rfl
 have stat:∀ {H':Hp} {ps:List (Addr×Obj)},(∀ b∈fp,H' b=none)→(∀ p∈ps,p.1=s2.heap.objs.size)→∀ b∈fp,d3 X' ps H' b:=fun {H' ps} hn hp b hb=>by
  obtain⟨f0,f1,ff,f3,f4,f5⟩:=f2 b hb
  refine⟨hn b hb,(below b (fl b hb)).1,fun z=>?_,.inl hb,fun x c e z=>?_,fun p hp' z=>?_⟩
  ·exact(YM.mp (I2.stkSub b z)).elim f1 ff
  ·exact f4 x c (c1 x c e) z
  ·have e:p.1=s2.heap.objs.size:=hp p (by simpa [X',ak] using hp')
   exact(below b (fl b hb)).2 (z.symm.trans e)
 have loop:∀ s3:Shared,s3={s2 with heap:=h1,toks:=s2.toks+([]:List (Str×Value)).length}→
   codeAny (model X.prog X.w) X.A (.compLoop (.ListComp elt [⟨tg,iter,[],0⟩] scope pos) 0 (.ref it) (.ref s2.heap.objs.size) (compEnvC scope cl G.objs.size X.env))
    (fun r s'=>match r with | .ok _=>bK X pins σ Q (.ref s2.heap.objs.size) G.objs.size s' | .error x=>bU (ak X N' scope cl G.objs.size fp s2 H2) E0 x s') s3:=by
  rintro s3 rfl
  have I3:=jo (us:=[]) (k:=0) (s':={s2 with heap:=h1,toks:=s2.toks+([]:List (Str×Value)).length}) S c1 c2 I2 f2 fl rfl hC rfl rfl old ⟨_,hns1⟩ hacc
  refine cR (fun m s'=>∃ i ys us k σ' H',Inv X' [(s2.heap.objs.size,{cls:=.type "list",data:=.seq (us:List Value).toArray k})] σ' H' s'∧ax ys us∧tn i s'.heap∧(∀ b∈fp,H' b=none)∧ys.length≤sizeLine∧W i m ys σ' H') ?_ m0
   ⟨0,[],[],0,_,H2,I3,.nil,hst1,fun b hb=>(f2 b hb).1,YO _,w0⟩
  rintro m s' ⟨i,ys,us,k,σ',H',I',rv,st',fr',hlen,w'⟩
  rcases turn i m ys σ' H' w' with ⟨stop,q⟩ | ⟨go,hlt,step⟩
  ·refine thn (T.done X' rfl rfl rfl hc i _ s' σ' H' _ I' (stat fr' (by simp)) st' stop) fun r s4 ⟨hr,I4⟩=>?_
   subst hr
   show bK X pins σ Q (.ref s2.heap.objs.size) G.objs.size s4
   obtain⟨m1,hn1,_⟩:=I4.loc
   obtain⟨pD,nD,_,_,_⟩:=I4.pin (s2.heap.objs.size,{cls:=.type "list",data:=.seq us.toArray k}) (YI _ (by simp))
   have nD:H' s2.heap.objs.size=none:=nD
   have pD:s4.heap.get? s2.heap.objs.size=some {cls:=.type "list",data:=.seq us.toArray k}:=pD
   have hok:HOk X.prog X.w (upd H' s2.heap.objs.size (.lst ys)) s4.heap:=fun b u e=>by
    by_cases hb:b=s2.heap.objs.size
    ·subst hb
     rw [aa] at e; cases e
     exact⟨hlen,us,k,rv,pD⟩
    ·rw [ae hb] at e
     exact(I4.hok b u e).stay (fun _ _ _ q=>q) (fun c q=>by rw [ae (af q nD)]; exact q) fun c xs q=>by rw [ae (af q nD)]; exact q
   have un:Un (frs X.stack) fp H2 (upd H' s2.heap.objs.size (.lst ys)) s2.heap s4.heap:=by
    have u0:=I4.base
    refine⟨u0.keep,u0.slot,fun b o e n hx=>?_,u0.there,fun b xs e=>?_,fun b o xs e=>?_,fun b ps e=>?_⟩
    ·rw [ae (below b (YF e)).2]; exact u0.free b o e n hx
    ·have q:=u0.tups b xs e
     rw [ae (af q nD)]; exact q
    ·have q:=u0.frzs b o xs e
     rw [ae (af q nD)]; exact q
    ·obtain⟨more,q⟩:=u0.tbls b ps e
     exact⟨more,by rw [ae (af q nD)]; exact q⟩
   have IX:Inv X pins σ (upd H' s2.heap.objs.size (.lst ys)) s4:=I2.call' (ch:=fp) I4.os un hok I4.bare fun b hb=>by
    obtain⟨f0,f1,ff,f3,f4,f5⟩:=f2 b hb
    exact⟨f3,f1,f4,f5⟩
   have hG0:H' G.objs.size=none:=I4.free
   refine⟨s2.heap.objs.size,_,m1,rfl,IX,hn1,⟨by rw [ae (Ne.symm hDC)]; exact hG0,fun z=>?_,fun z=>?_,.inr ?_,fun x c e z=>?_,fun p hp z=>?_⟩,q _ nD⟩
   ·have q1:@LT.lt Nat _ X.env.locals s2.heap.objs.size:=I2.lt
    have q2:@Eq Nat G.objs.size X.env.locals:=z
    omega
   ·have z':G.objs.size∈frs X.outer:=z
    obtain⟨_,o,ho,_⟩:=I2.funs.mem z'
    have q1:@LT.lt Nat _ G.objs.size s2.heap.objs.size:=YF ho
    omega
   ·have q1:=I2.sz
    show @LE.le Nat _ X.s₀.heap.objs.size G.objs.size
    omega
   ·have q1:=celll x c e
    have q2:@Eq Nat c G.objs.size:=z
    omega
   ·have q1:@LT.lt Nat _ p.1 s2.heap.objs.size:=YF (I2.pin p hp).1
    have q2:@Eq Nat p.1 G.objs.size:=z
    omega
  ·refine thn (T.item X' rfl rfl rfl hc i _ s' σ' H' _ I' (stat fr' (by simp)) st' go) fun r s4 ⟨u,hr,h4⟩=>?_
   subst hr
   show wpAny _ _ (letOwnedTupleGo tg (.ref it) u) _ _ s4
   refine thn h4 fun _ s5 ⟨x,H5,I5,r5,y5,st5,fr5⟩=>?_
   have I5':=I5.pinned (stat fr5 (by simp)) (T.obj _ _ st5)
   have w1:=hg cl G.objs.size fp s2 H2 _ s5 σ' H5 x u _ (I5'.wish _) r5 (step x H5 y5)
   refine YH w1 (fun _ s6 ⟨σ6,H6,I6,q6⟩=>?_) fun v s hv=>YH (XE.note (X:=ak X N' scope cl G.objs.size fp s2 H2) (E:=E0) hv) (fun _ _ z=>z) fun _ _ z=>z
   obtain⟨NN,q6,hNN⟩:=q6
   have w2:=he cl G.objs.size fp s2 H2 _ s6 σ6 H6 _ I6 q6
   refine YH w2 (fun y s7 ⟨v,H7,I7w,r7,q7⟩=>?_) fun v s hv=>YH (XE.note (X:=ak X N' scope cl G.objs.size fp s2 H2) (E:=E0) hv) (fun _ _ z=>z) fun _ _ z=>z
   have I7:=I7w.unwish
   obtain⟨m',hm',w7⟩:=hNN v H7 q7
   have pinD:=I7.pin (s2.heap.objs.size,{cls:=.type "list",data:=.seq us.toArray k}) (YI _ (XC _ (by simp)))
   obtain⟨pD,nD,lD,fD,_⟩:=pinD
   refine append_at (hsz:=by rw [YL,← rv.length]; exact hlen) pD fun h8 hs8 hD8=>?_
   have nD:H7 s2.heap.objs.size=none:=nD
   have I8:Inv X' (b8 fp s5.heap) σ6 H7 {s7 with heap:=h8}:=by
    refine(I7.pins_of (pins':=b8 fp s5.heap) fun p hp=>I7.pin p (YI _ (YI _ hp))).turned (t':=s7.toks) (it:=s2.heap.objs.size) (fun b o hb e=>(hs8.2 b hb).trans e) nD lD (.inr (YD _)) (fun x c e z=>?_) fun p hp z=>?_
    ·have q1:=celll x c (c1 x c e)
     have q2:@Eq Nat c s2.heap.objs.size:=z
     omega
    ·have hp':p∈b8 fp s5.heap:=by simpa [X',ak] using hp
     have q1:=fl p.1 (dY hp').1
     have q2:@Eq Nat p.1 s2.heap.objs.size:=z
     omega
   have I9:Inv X' [(s2.heap.objs.size,{cls:=.type "list",data:=.seq (us++[y]).toArray (k+1)})] σ6 H7 {s7 with heap:=h8}:=I8.pins_of fun p hp=>by
    have e:p=(s2.heap.objs.size,{cls:=.type "list",data:=.seq (us++[y]).toArray (k+1)}):=by simpa using hp
    subst e
    refine⟨by rw [hD8,List.push_toArray],nD,lD,fD,fun v z=>by cases z⟩
   refine⟨m',hm',i+1,ys++[v],us++[y],k+1,σ6,H7,I9,rv.append (.cons r7 .nil),T.keep _ _ _ st5 fun b hb o e=>?_,fun b hb=>?_,by rw [YY,XH]; omega,w7⟩
   ·exact(I8.pin (b,o) (YI _ (ba hb e))).1
   ·obtain⟨o,e,d⟩:=T.obj _ _ st5 b hb
    exact(I8.pin (b,o) (YI _ (ba hb e))).2.1
 exact codeAny_compStart_list (loop _ rfl) (T.self _ 0 _ _ _ hst1 (loop _ rfl))
theorem sK{E0:XK}{wi:TI}{g:ay TG}{te:ay TE}(fr:cj X)(hc:X.calm=true)(S:aK n N' X scope)(hi:PI (X.exc E0) tg iter wi)
  (hg:∀ cl C ex s H,PG ((ak X N' scope cl C ex s H).exc E0) tg (g cl C ex s H)) (he:∀ cl C ex s H,PE ((ak X N' scope cl C ex s H).exc E0) elt (te cl C ex s H))
  (hs:∀ x,foldedSetIterable iter X.env x=pure x:=by intro _; rfl):PE (X.exc E0) (.ListComp elt [⟨tg,iter,[],0⟩] scope pos) (rO n wi g te):=by
 intro pins s σ H Q I h
 rw [eval_ListComp]
 obtain⟨cl,hcl,c1,c2⟩:=dw (scope:=scope) (env:=X.env) fun x hx hf=>I.ok.has x.1 (S.free x hx hf)
 refine wpAny_comprehension_free (use:=none) rfl hs hcl S.kind S.names (thn (hi pins s σ H _ I h) fun v s1 h1=>thn h1 fun itv s2 h2=>?_)
 obtain⟨it,fp,tn,J,H2,e,I2w,T,st2,f2,cok⟩:=h2
 subst e
 have I2:=I2w.unwish
 refine YH (mO (X:=X) (E0:=E0) (pos:=pos) (iter:=iter) (Q:=Q) (E:=(X.exc E0).xe) hc S c1 c2 I2 T st2 f2 hg he cok) (fun acc s3 h3=>YH h3 (fun cenv s4 h4=>codeAny_mono h4 fun r s' hr=>?_) fun _ _ z=>z) fun _ _ z=>z
 cases r with
 | error e=>exact gh I2 f2 fr hr
 | ok f=>
  obtain⟨D,H',m,rfl,I',hn,⟨f0,f1,ff,f3,f4,f5⟩,q⟩:=hr
  refine⟨m,hn,fun h' hs'=>⟨.ref D,H',Inv.wish ?_ _,rfl,q⟩⟩
  exact I'.turned (t':=s'.toks) (fun b o hb e=>(hs'.2 b hb).trans e) f0 f1 f3 f4 f5
end
structure bV(k:Nat)(A:Around):Prop where
 gd:A.guards=some []
 dp:A.depth+3*k+5<recursionLimit
 un:A.units+16*k+200<cLine
theorem aO.u{k:Nat}{A:Around}(r:aO k A):bV k A:=⟨r.gd,r.dp,r.un⟩
theorem bV.mono{j k:Nat}{A:Around}(r:bV k A)(h:j≤k):bV j A:=⟨r.gd,by have:=r.dp; omega,by have:=r.un; omega⟩
theorem bV.mark{k:Nat}{A:Around}(r:bV k A)(e:Option Value):bV k (A.mark e):=⟨r.gd,r.dp,r.un⟩
theorem bV.deeper{k:Nat}{A:Around}(r:bV (k+1) A)(env:Env):bV k (A.deeper env):=⟨r.gd,(by have:=r.dp; show A.depth+1+3*k+5<_; omega),(by have:=r.un; show A.units+3+16*k+200<_; omega)⟩
theorem bV.depth{k:Nat}{A:Around}(r:bV k A):A.depth<recursionLimit:=by have:=r.dp; omega
structure uY(P:Program)(w:World)(K:WB)(mg:Str→Option Value)(base:Heap)(CX:CXT)(k:Nat)(f:Addr)(fd:FuncData)(ps:List Str)(sp:Sp):Prop where
 len:∀ vs H Q E,sp vs H Q E→vs.length=ps.length
 run:∀ (A:Around) (outer:List Env) (s:Shared) (H:Hp) (args:Args) (us:List Value) (vs:List V) (Q:VK) (E:XK),bV k A→lx P w K mg base A outer s H→BindsTo s fd args (ps.zip us)→ax vs us→sp vs H Q E→
  codeAny (model P w) A (.call (.ref f) args) (CR CX outer P w H s Q E) s
def j3(CX:CXT)(P:Program)(w:World)(K:WB)(mg:Str→Option Value)(base:Heap)(N:List Str)(qual:Str)(scope:Scope)(f:Addr)(cd:Value)(A:Around)(outer:List Env)(s:Shared)(H:Hp)(E:XK):Cx where
 prog:=P
 w:=w
 K:=K
 mg:=mg
 base:=base
 A:=A.deeper (envOfC qual scope s.heap.objs.size f cd)
 N:=N
 s₀:=s
 H₀:=H
 env:=envOfC qual scope s.heap.objs.size f cd
 outer:=outer
 stack:=envOfC qual scope s.heap.objs.size f cd::outer
 ex:=[]
 calm:=false
 fn:=fun _=>true
 pn:=[]
 xe:=fun e s'=>wpAny (model P w) (A.deeper (envOfC qual scope s.heap.objs.size f cd)) (leaving (envOfC qual scope s.heap.objs.size f cd) e) (fun _ s''=>CX outer H s E e s'') (fun e' s''=>CX outer H s E e' s'') s'
theorem oo{CX:CXT}{P:Program}{w:World}{K:WB}{mg:Str→Option Value}{base:Heap}{N ps:List Str}{qual:Str}{scope:Scope}{f:Addr}{cd:Value}{A:Around}{outer:List Env}{s s1:Shared}{H:Hp}{E:XK}{us:List Value}{vs:List V}
  (S:ai N ps scope) (e0:lx P w K mg base A outer s H) (hl:vs.length=ps.length) (r:ax vs us)
  (x:InCallC s s.heap.objs.size (bindL (envOfC qual scope s.heap.objs.size f cd).kindOf (ps.zip us) fun _=>none) (cellsFrom (s.heap.objs.size+1) scope.names []) (bindC (envOfC qual scope s.heap.objs.size f cd).kindOf (ps.zip us) fun _=>none) s1) :
  Inv (j3 CX P w K mg base N qual scope f cd A outer s H E) [] (cq N vs) H s1:=by
 have hpl:ps.length≤N.length:=by have:=congrArg List.length S.pre; rw [XX] at this; omega
 obtain⟨h1,tk,rfl,hk⟩:=x.done
 have noA:∀ b:Addr,b∉(j3 CX P w K mg base N qual scope f cd A outer s H E).ex:=fun b z=>absurd (show b∈([]:List Addr) from z) (by simp)
 refine⟨⟨e0.mod,S.kind,rfl,rfl,YD _,fun y z c h1 h2=>?_,fun y hy=>?_,fun y c _ h=>?_,(fun z=>nomatch z),Around.frames_deeper e0.frames,.inr ⟨rfl,rfl⟩,fun b z=>absurd z (noA b),e0.bs,e0.bsz,fun b _ _=>noA b,fun b z=>absurd z (noA b),e0.funs,e0.frf⟩,
  rfl,e0.bare,Un.kept hk,⟨_,x.toInCall.ns,fun i y v h1 h2 h3=>?_⟩,fun y c h=>⟨_,x.cell y c h⟩,e0.hok.fresh (YD _),fun y c h=>?_,fun p hp=>absurd (show p∈([]:List (Addr×Obj)) from hp) (by simp),e0.hok.kept hk,?_⟩
 ·exact name_of_addr x.apart (PySem.mem_of_lookup h1) (PySem.mem_of_lookup h2)
 ·have hy:scope.names.lookup y=some .cell∨scope.names.lookup y=some .free:=hy
  rcases hy with hy | hy
  ·exact gF hy
  ·exact absurd rfl (S.nofree _ (PySem.mem_of_lookup hy))
 ·exact Nat.le_of_lt (x.above y c (PySem.mem_of_lookup h))
 ·have hi:i<vs.length:=by
   unfold cq at h2
   by_cases hi:i<vs.length
   ·exact hi
   ·rw [X0 (by simpa using hi)] at h2
    rw [List.getElem?_replicate] at h2
    split at h2 <;> cases h2
  have ha:vs[i]? = some v:=by
   unfold cq at h2
   rw [X5 (by simpa using hi),YZ] at h2
   cases e:vs[i]? with
   | none=>rw [e] at h2; cases h2
   | some a=>rw [e] at h2; cases h2; rfl
  obtain⟨u,hu,rv⟩:=r.get ha
  have hp:ps[i]? = some y:=by
   rw [← S.pre,List.getElem?_take_of_lt (by omega)]; exact h1
  have ndP:ps.Nodup:=by rw [← S.pre]; exact S.nd.sublist (List.take_sublist _ _)
  refine⟨u,rv,?_⟩
  rcases S.par y (YU hp) with k | k
  ·exact .inl ⟨k,ii ndP hp hu k⟩
  ·obtain⟨c,e⟩:=gF (n:=s.heap.objs.size+1) k
   refine .inr ⟨.inl k,c,e,?_⟩
   have q:=x.cell y c e
   rw [ij ndP hp hu (by show scope.names.lookup y≠_; rw [k]; decide)] at q
   exact q
 ·exact e0.hok.fresh (Nat.le_of_lt (x.above y c (PySem.mem_of_lookup h)))
 ·unfold cq
  show _=N.length
  rw [YY,YC,XO]
  omega
theorem yB{CX:CXT}{P:Program}{w:World}{K:WB}{mg:Str→Option Value}{base:Heap}{k:Nat}{f:Addr}{name qual:Str}{params:Arguments}{body:List Stmt}{scope:Scope}{dV kV doc pm cdv ct oc:Value}{an od:Option Addr}
  {osl:Array (Option Value)} {N ps:List Str} {sp:Sp} (lk:K.lookup f=some ⟨oc,od,.func (PySem.W.fnOf name qual params body scope dV kV doc pm an cdv ct),osl⟩) (hcd:PySem.W.codeIn K cdv qual=true) (S:ai N ps scope)
  (len:∀ vs H Q E,sp vs H Q E→vs.length=ps.length)
  (hbody:∀ (A:Around) (outer:List Env) (s:Shared) (H:Hp) (vs:List V) (Q:VK) (E:XK),bV k (A.deeper (envOfC qual scope s.heap.objs.size f cdv))→sp vs H Q E→
   ∃ t,PSs (j3 CX P w K mg base N qual scope f cdv A outer s H E) body t∧t {nx:=fun _ H'=>Q .non H',rt:=Q} (cq N vs) H) :
  uY P w K mg base CX (k+1) f (PySem.W.fnOf name qual params body scope dV kV doc pm an cdv ct) ps sp:=by
 refine⟨len,fun A outer s H args us vs Q E hr e0 hb r hsp=>?_⟩
 have hl:=len _ _ _ _ hsp
 have KX:K.In s.heap:=e0.mod.kin.keeps fun b o e=>(e0.bs b o e).1
 have lim:s.heap.NoLimit:=e0.mod.nolimit.keeps fun b o e=>(e0.bs b o e).1
 have hkind:∀ y∈ps.zip us,scope.names.lookup y.1=some .local∨(scope.names.lookup y.1=some .cell∧((cellsFrom (s.heap.objs.size+1) scope.names []).lookup y.1).isSome=true):=fun ⟨n,v⟩ hy=>by
  rcases S.par n (List.of_mem_zip hy).1 with q | q
  ·exact .inl q
  ·exact .inr ⟨q,PySem.W.cellsFrom_some _ _ _ (.inl q)⟩
 refine codeAny_call_function hr.depth (KX _ _ lk) rfl S.co S.gen rfl (PySem.W.codeRec_of KX hcd) (hb _ _ _ _ ?_)
 refine wpAny_newFunctionEnv_cells S.kind hkind fun env he s1 x=>?_
 subst he
 refine⟨lim.keeps x.toInCall.keep,codeAny_func ?_⟩
 obtain⟨t,ht,hq⟩:=hbody A outer s H vs Q E (hr.deeper _) hsp
 have I:Inv (j3 CX P w K mg base N qual scope f cdv A outer s H E) [] (cq N vs) H s1:=oo S e0 hl r x
 refine YH (ht [] s1 (cq N vs) H _ I hq) (fun fl s' hs=>?_) fun e s' hs=>hs
 have fin:∀ {σ':St} {H':Hp} {v:V} {u:Value},Inv (j3 CX P w K mg base N qual scope f cdv A outer s H E) [] σ' H' s'→ar v u→Q v H'→CE outer P w H s Q u s':=
  fun {σ' H' v u} J rv q=>⟨v,H',J.os,J.bare,J.base,J.hok,rv,q⟩
 cases fl with
 | ret u=>
  obtain⟨v,σ',H',J,rv,q⟩:=hs
  exact fin J rv q
 | next=>
  obtain⟨σ',H',J,q⟩:=hs
  exact fin (v:=V.non) (u:=Value.none) J rfl q
 | brk=>
  obtain⟨_,_,_,q⟩:=hs
  exact False.elim q
 | cont=>
  obtain⟨_,_,_,q⟩:=hs
  exact False.elim q
theorem vh{X:Cx}{k:Nat}{f:Addr}{fd:FuncData}{ps:List Str}{sp:Sp}{pins:List (Addr×Obj)}{σ:St}{H:Hp}{s:Shared}{Q:VK}{us:List Value}{vs:List V}(F:uY X.prog X.w X.K X.mg X.base CX0 k f fd ps sp)(hr:bV k X.A)(hb:ce X.K fd ps [])
  (I:Inv X pins σ H s) (r:ax vs us) (h:sp vs H Q E0):wpAny (model X.prog X.w) X.A (call (.ref f) us) (EP X pins σ Q) X.xe s:=by
 have hl:(us++[]).length=ps.length:=by rw [XT,← r.length]; exact F.len _ _ _ _ h
 have b:=hb s us I.kIn hl
 rw [XT] at b
 refine wpAny_call (codeAny_mono (F.run X.A X.stack s H ⟨us,[]⟩ us vs Q E0 hr I.env0 b r h) fun r s' hq=>?_)
 cases r with
 | error e=>exact False.elim hq
 | ok fl=>
  cases fl with
  | ret u=>exact I.after hq
  | next=>exact False.elim hq
  | brk=>exact False.elim hq
  | cont=>exact False.elim hq
def rh(P:Program)(w:World)(K:WB)(mg:Str→Option Value)(base:Heap)(x:Str)(k:Nat)(ps:List Str)(sp:Sp):Prop:=
 ∃ f fd,mg x=some (.ref f)∧PySem.W.keepIn K (.ref f)=true∧ce K fd ps []∧uY P w K mg base CX0 k f fd ps sp
theorem kM{X:Cx}{x:Str}{k:Nat}{ps:List Str}{sp:Sp}{p pos:Pos}{e:Expr}{es:List Expr}{t:TA}(D:rh X.prog X.w X.K X.mg X.base x k ps sp)(hr:bV k X.A)(hg:Gl X x)(ha:PA X (e::es) t)
  (hdb:(x==("__debug__":Str))=false:=by decide) (he:starEach (e::es) X.env=(false,eval e X.env)::starEach es X.env:=by rfl) (hpl:(backTo pos (starEach es X.env)).any (·.1)=false:=by rfl) :
  PE X (.Call (.Name x p) (e::es) [] pos) (iQ sp [] E0 t):=by
 obtain⟨f,fd,hm,hk,hb,F⟩:=D
 intro pins s σ H Q I h
 refine wpAny_Call_Name_kw (fE I hg hm ?_ hdb)
 refine PySem.W.callWith_K (h₀:=X.base) I.ok.mod.kin hk (thn (ha pos pins s σ H _ I h) fun us s1 ⟨vs,H1,I1,r,q⟩=>⟨I1.kIn,?_⟩) he hpl
 have q':sp (vs++[]) H1 Q E0:=q
 rw [XT] at q'
 exact vh F hr hb I1 r q'
theorem ah.mkU{P:Program}{w:World}{K:WB}{mg:Str→Option Value}{base:Heap}{x:Str}{st:Stmt}{N ps:List Str}{k:Nat}{sp:Sp}(F:ah K mg x st ps)(S:ai N ps (ag st))(len:∀ vs H Q E,sp vs H Q E→vs.length=ps.length)
  (hbody:∀ (f:Addr) (cdv:Value) (A:Around) (outer:List Env) (s:Shared) (H:Hp) (vs:List V) (Q:VK) (E:XK),bV k (A.deeper (envOfC x (ag st) s.heap.objs.size f cdv))→sp vs H Q E→
   ∃ t,PSs (j3 CX0 P w K mg base N x (ag st) f cdv A outer s H E).nox (bD st) t∧t {nx:=fun _ H'=>Q .non H',rt:=Q} (cq N vs) H):rh P w K mg base x (k+1) ps sp:=by
 obtain⟨f,fd,Fn,hm,hb⟩:=F.ex
 refine⟨f,fd,hm,Fn.kp,hb,?_⟩
 obtain⟨oc,od,kV,doc,pm,an,cdv,ct,osl,rfl,lk,hcd⟩:=Fn.ex
 refine yB lk hcd S len fun A outer s H vs Q E hr hsp=>?_
 obtain⟨t,h,q⟩:=hbody f cdv A outer s H vs Q E hr hsp
 exact⟨t,h.nox,q⟩
abbrev Cx.pnd(X:Cx)(pn:List (Addr×Obj)):Cx:={X with pn:=pn}
abbrev Cx.held(X:Cx)(e:Value):Cx:={X with A:=X.A.mark (some e),calm:=false,xe:=fun _ _=>False}
section
variable{X:Cx}{pins:List (Addr×Obj)}{σ:St}{H:Hp}{s:Shared}
theorem Cx.Ok.pnd{pn:List (Addr×Obj)}(ok:X.Ok):(X.pnd pn).Ok:=⟨ok.mod,ok.kind,ok.glob,ok.blt,ok.above,ok.inj,ok.has,ok.cab,ok.hd,ok.frames,ok.stk,ok.exf,ok.bs,ok.bsz,ok.noex,ok.exfs,ok.funs,ok.frf⟩
theorem Cx.Ok.unpnd{pn:List (Addr×Obj)}(ok:(X.pnd pn).Ok):X.Ok:=⟨ok.mod,ok.kind,ok.glob,ok.blt,ok.above,ok.inj,ok.has,ok.cab,ok.hd,ok.frames,ok.stk,ok.exf,ok.bs,ok.bsz,ok.noex,ok.exfs,ok.funs,ok.frf⟩
theorem Inv.pnd(I:Inv X pins σ H s):Inv (X.pnd (X.pn++pins)) [] σ H s:=⟨I.ok.pnd,I.os,I.bare,I.base,I.loc,I.cell,I.free,I.freeC,fun p hp=>I.pin p (by simpa using hp),I.hok,I.len⟩
theorem Inv.unpnd(I:Inv (X.pnd (X.pn++pins)) [] σ H s):Inv X pins σ H s:=⟨I.ok.unpnd,I.os,I.bare,I.base,I.loc,I.cell,I.free,I.freeC,fun p hp=>I.pin p (by simpa using hp),I.hok,I.len⟩
theorem Inv.held(I:Inv X pins σ H s)(e:Value):Inv (X.held e) pins σ H s:=⟨⟨I.ok.mod,I.ok.kind,I.ok.glob,I.ok.blt,I.ok.above,I.ok.inj,I.ok.has,I.ok.cab,(fun z=>nomatch z),I.ok.frames,I.ok.stk,I.ok.exf,I.ok.bs,I.ok.bsz,I.ok.noex,I.ok.exfs,I.ok.funs,I.ok.frf⟩,I.os,I.bare,I.base,I.loc,I.cell,I.free,I.freeC,I.pin,I.hok,I.len⟩
theorem Inv.unheld{e:Value}{ok:X.Ok}(I:Inv (X.held e) pins σ H s):Inv X pins σ H s:=⟨ok,I.os,I.bare,I.base,I.loc,I.cell,I.free,I.freeC,I.pin,I.hok,I.len⟩
def lu(C a:Addr)(dx:Option Addr):HO:=HO.ext fun h=>∃ oe,h.get? a=some oe∧oe.cls=.ref C∧oe.dict=dx∧PySem.W.notCls oe=true
theorem Inv.track{C a:Addr}{dx:Option Addr}{oe:Obj}(I:Inv X pins σ H s)(l:eG X pins H a)(e:s.heap.get? a=some oe)(c:oe.cls=.ref C)(d:oe.dict=dx)(nc:PySem.W.notCls oe=true):Inv X pins σ (upd H a (lu C a dx)) s:=by
 have nb:∀ b u,H b=some u→b≠a:=fun b u q=>af q l.un
 refine⟨I.ok,I.os,I.bare,⟨I.base.keep,I.base.slot,fun b o q n hx=>?_,I.base.there,fun b xs q=>?_,fun b o xs q=>?_,fun b ps q=>?_⟩,I.loc,I.cell,?_,fun x c hc=>?_,fun p hp=>?_,fun b u q=>?_,I.len⟩
 ·have : b≠a:=by
   rintro rfl
   rcases l.new with z | z
   ·exact hx z
   ·rw [z] at q; cases q
  rw [ae this]; exact I.base.free b o q n hx
 ·have:=I.base.tups b xs q
  rw [ae (nb b _ this)]; exact this
 ·have:=I.base.frzs b o xs q
  rw [ae (nb b _ this)]; exact this
 ·obtain⟨m,z⟩:=I.base.tbls b ps q
  exact⟨m,by rw [ae (nb b _ z)]; exact z⟩
 ·rw [ae (Ne.symm l.loc)]; exact I.free
 ·rw [ae (l.cel x c hc)]; exact I.freeC x c hc
 ·obtain⟨e1,n,ne,nf,d⟩:=I.pin p hp
  exact⟨e1,by rw [ae (l.pin p hp)]; exact n,ne,nf,d⟩
 ·by_cases hb:b=a
  ·subst hb
   rw [aa] at q; cases q
   exact⟨⟨oe,e,c,d,nc⟩,⟨oe,e⟩,fun h1 h2 ⟨o,z1,z2⟩ k=>⟨o,k o z1,z2⟩⟩
  ·rw [ae hb] at q
   exact(I.hok b u q).stay (fun _ _ _ z=>z) (fun c z=>by rw [ae (nb c _ z)]; exact z) fun c xs z=>by rw [ae (nb c _ z)]; exact z
theorem pZ{M:Model}{A:Around}{E:Value→Shared→Prop}{i:Nat}{x:Str}{v:V}{pos:Pos}{Q:Unit→Shared→Prop}(I:Inv X pins σ H s)(hN:X.N.Nodup)(hi:X.N[i]? = some x)(hk:X.env.scope.names.lookup x=some .local)(hv:σ[i]? = some (some v))
  (h:∀ s',Inv X pins (σ.set i none) H s'→Q () s'):wpAny M A (unbindBehindTheSuite X.env x pos) Q E s:=by
 obtain⟨m,hn,hl⟩:=id I.loc
 obtain⟨u,_,lk⟩:=hl i x v hi hv (.inl hk)
 have hm:m x=some u:=by
  rcases lk with ⟨_,z⟩ | ⟨z,_⟩
  ·exact z
  ·rcases z with z | z <;> (rw [show X.env.kindOf x=some NameKind.local from hk] at z; cases z)
 have hcls:(X.env.scope.kind==.class||(X.env.scope.kind==.module&&X.env.locals != X.env.globals))=false:=by rw [I.ok.kind]; rfl
 unfold unbindBehindTheSuite
 refine wpAny_onRaise (wpAny_unbindName_local hk hn hm hcls fun h' u' hn' hs=>h _ ?_)
 have low:∀ b o,X.s₀.heap.get? b=some o→b≠X.env.locals:=fun b o e=>YT (Y2 (YF e) I.ok.above)
 refine⟨I.ok,I.os,I.bare,⟨fun b o e n hb hx=>(hs.2 b (low b o e)).trans (I.base.keep b o e n hb hx),fun b o e n hb hx=>?_,I.base.free,fun b o e hx=>?_,I.base.tups,I.base.frzs,I.base.tbls⟩,⟨_,hn',fun j y v' e1 e2 e3=>?_⟩,fun y c e=>?_,I.free,I.freeC,fun p hp=>?_,fun b o e=>?_,by rw [List.length_set]; exact I.len⟩
 ·obtain⟨sl,e1⟩:=I.base.slot b o e n hb hx
  exact⟨sl,(hs.2 b (low b o e)).trans e1⟩
 ·obtain⟨o',e1⟩:=I.base.there b o e hx
  exact⟨o',(hs.2 b (low b o e)).trans e1⟩
 ·by_cases hj:j=i
  ·subst hj
   rw [List.getElem?_set] at e2
   simp at e2
  ·rw [List.getElem?_set_ne (Ne.symm hj)] at e2
   obtain⟨u2,r2,q⟩:=hl j y v' e1 e2 e3
   refine⟨u2,r2,?_⟩
   rcases q with ⟨k,e⟩ | ⟨k,c,e,z⟩
   ·refine .inl ⟨k,?_⟩
    have : y≠x:=fun e=>hj (ja hN e1 (e▸hi))
    simp [this,e]
   ·exact .inr ⟨k,c,e,z.sameBut hs (I.cne y c e)⟩
 ·obtain⟨w',z⟩:=I.cell y c e
  exact⟨w',z.sameBut hs (I.cne y c e)⟩
 ·obtain⟨e,n,ne,nf,d⟩:=I.pin p hp
  exact⟨(hs.2 p.1 ne).trans e,n,ne,nf,d⟩
 ·refine(I.hok b o e).stay (fun c w' hc q=>(hs.2 c ?_).trans q) (fun _ q=>q) fun _ _ q=>q
  rintro rfl
  rcases hc with rfl | hc
  ·rw [I.free] at e; cases e
  ·rw [I.free] at hc; cases hc
end
def j8(K:WB)(B:Addr):Prop:=∃ d cd sl,K.lookup B=some ⟨.type "type",d,.cls cd,sl⟩
theorem Az{M:Model}{A:Around}{K:WB}{E:Value→Shared→Prop}{s:Shared}{a B C:Addr}{o:Obj}{Q:Bool→Shared→Prop}(X:K.In s.heap)(hB:j8 K B)(mB:PySem.W.mroIn K B (.type "BaseException")=some true)(mC:PySem.W.mroIn K C (.ref B)=some true)
  (hx:s.heap.get? a=some o) (hc:o.cls=.ref C) (q:Q true s):wpAny M A (excMatches (.ref a) (.ref B)) Q E s:=by
 obtain⟨h,g,d,t,os⟩:=s
 obtain⟨d',cd',sl',ho⟩:=hB
 have hO:=X _ _ ho
 have f:=tc_notTuple
 have L1:=PySem.W.looks_mroIn (M:=M) X mB
 have L2:=PySem.W.looks_mroIn (M:=M) X mC
 unfold excMatches
 repeat (first | (with_reducible refine wpAny_loadPart_at hx ?_; rw [hc]) | with_reducible refine wpAny_loadPart_at hO ?_ | (with_reducible refine L1.at ?_) | (with_reducible refine L2.at ?_) | wp_step)
 exact q
def zJ(K:WB)(B:Addr)(i:Nat)(Ec:XK)(tb ts:TS):TS:=fun D σ H=>tb D σ H∧∀ (cls:Value) (dx:Option Addr) (H1:Hp) (σ1:St),Ec cls dx H1→σ1.length=σ.length→∃ C,cls=.ref C∧PySem.W.mroIn K C (.ref B)=some true∧∀ a,H1 a=none→
 ts {nx:=fun σ2 H2=>D.nx (σ2.set i none) H2,rt:=D.rt,bk:=fun σ2 H2=>D.bk (σ2.set i none) H2,ct:=fun σ2 H2=>D.ct (σ2.set i none) H2} (σ1.set i (some (.ref a))) (upd H1 a (lu C a dx))
theorem i3{X:Cx}{E':Value→Shared→Prop}{Ec:XK}{B:Addr}{i:Nat}{x n:Str}{body suite:List Stmt}{b0:Stmt}{np hp pos:Pos}{tb ts:TS}(hm:X.mg x=some (.ref B))(hB:j8 X.K B)(mB:PySem.W.mroIn X.K B (.type "BaseException")=some true)(hg:Gl X x)(hN:X.N.Nodup)(hi:X.N[i]? = some n)(hl:X.env.scope.names.lookup n=some .local)
  (hb:∀ pn,PSs ((X.pnd pn).exc Ec) body tb) (hs:∀ pn e,PSs ((X.pnd pn).held e) (b0::suite) ts) (hdb:(x==("__debug__":Str))=false:=by decide) :
  PS (X.wish E') (.Try body [.ExceptHandler (some (.Name x np)) (some n) (b0::suite) hp] [] [] pos) (zJ X.K B i Ec tb ts):=by
 intro pins s σ H D Iw h
 obtain⟨h1,h2⟩:=h
 have I:Inv X pins σ H s:=Iw.unwish
 refine wpAny_Try_except (YH (hb (X.pn++pins) [] s σ H D (I.pnd.wish _) h1) (fun f s1 z=>?_) fun e s1 z=>?_)
 ·have z':SP (X.wish E') pins D f s1:=by
   cases f with
   | next=>obtain⟨σ',H',J,q⟩:=z; exact⟨σ',H',J.unwish.unpnd.wish _,q⟩
   | brk=>obtain⟨σ',H',J,q⟩:=z; exact⟨σ',H',J.unwish.unpnd.wish _,q⟩
   | cont=>obtain⟨σ',H',J,q⟩:=z; exact⟨σ',H',J.unwish.unpnd.wish _,q⟩
   | ret u=>obtain⟨v,σ',H',J,r,q⟩:=z; exact⟨v,σ',H',J.unwish.unpnd.wish _,r,q⟩
  cases f with
  | next=>exact wpAny_execs_nil z'
  | brk=>exact z'
  | cont=>exact z'
  | ret u=>exact z'
 ·have z1:XE (X.pnd (X.pn++pins)) Ec e s1:=z
  refine YH z1.note (fun _ s2 z2=>YH z2.land (fun _ s3 z3=>?_) fun _ _ q=>q) fun _ _ q=>q
  obtain⟨a,L,cls,dx,σ1,H1,fl,S,env0,rest,rfl,hst,hf0,hf,I3,ex,hpp,hS,hE⟩:=id z3
  have hlen:σ1.length=σ.length:=I3.len.trans I.len.symm
  obtain⟨C,rfl,mC,h3⟩:=h2 cls dx H1 σ1 hE hlen
  have hcl:∃ oe,s3.heap.get? a=some oe∧oe.cls=.ref C:=by
   cases ex with
   | made he hc=>exact⟨_,he,hc⟩
   | ent he hc=>exact⟨_,he,hc⟩
  obtain⟨oe,he,hoc⟩:=hcl
  refine wpAny_handleBy_cons (codeAny_handlers_test (fE (X:=(X.pnd (X.pn++pins)).held (.ref a)) (I3.held _) hg hm ?_ hdb)) (by intro q; cases q)
  refine Az I3.kIn hB mB mC he hoc ?_
  refine codeAny_handlers_suite_as ?_
  refine YH z3.land (fun _ s4 z4=>?_) fun _ _ q=>q
  obtain⟨a',L',cls',dx4,σ4,H4,fl4,S4,env4,rest4,ea,hst4,hf04,hf4,I4,ex4,hpp4,hS4,hE4⟩:=z4
  cases ea
  have hlen4:σ4.length=σ.length:=I4.len.trans I.len.symm
  obtain⟨C4,rfl,mC4,h4⟩:=h2 cls' dx4 H4 σ4 hE4 hlen4
  have hcl4:∃ oe,s4.heap.get? a=some oe∧oe.cls=.ref C4∧oe.dict=dx4∧PySem.W.notCls oe=true:=by
   cases ex4 with
   | made he hc hx hd=>exact⟨_,he,hc,hx,by unfold PySem.W.notCls; rw [hd]⟩
   | ent he hc hx hd=>exact⟨_,he,hc,hx,by unfold PySem.W.notCls; rw [hd]⟩
  obtain⟨oe4,he4,hoc4,hod4,hnc4⟩:=hcl4
  have la:eG (X.pnd (X.pn++pins)) [] H4 a:=by
   cases ex4 with
   | made=>exact hS4 a (by simp)
   | ent=>exact hS4 a (by simp)
  have I5:=(I4.track la he4 hoc4 hod4 hnc4).held (.ref a)
  refine dS (X:=(X.pnd (X.pn++pins)).held (.ref a)) (v:=.ref a) I5 hN hi (.inl hl) rfl (fun s5 I6=>?_) (.inr hl)
  refine YH (hs (X.pn++pins) (.ref a) [] s5 _ _ _ I6 (h4 a la.un)) (fun f s6 z6=>?_) fun _ _ q=>False.elim q
  have iσ:∀ σ':St,σ'.length=X.N.length→(σ'.set i (some V.non))[i]? = some (some V.non):=fun σ' hl'=>List.getElem?_set_self (by rw [hl']; exact(YV.mp hi).1)
  have fin:∀ {σ':St} {H':Hp} {Q:Unit→Shared→Prop},Inv ((X.pnd (X.pn++pins)).held (.ref a)) [] σ' H' s6→(∀ s8,Inv (X.wish E') pins (σ'.set i none) H' s8→Q () s8)→wpAny (model X.prog X.w) X.A (do bindName X.env n .none; unbindBehindTheSuite X.env n hp) Q (X.wish E').xe s6:=fun {σ' H' Q} J k=>by
   refine Yz (wpAny_bindName (dS (X:=(X.pnd (X.pn++pins)).held (.ref a)) (v:=.non) J hN hi (.inl hl) rfl (fun s7 J7=>?_) (.inr hl)))
   refine pZ (X:=(X.pnd (X.pn++pins)).held (.ref a)) J7 hN hi hl (iσ σ' J.len) fun s8 J8=>k s8 ?_
   rw [List.set_set] at J8
   exact(J8.unheld (ok:=I3.ok)).unpnd.wish _
  cases f with
  | next=>obtain⟨σ',H',J,q⟩:=z6; exact fin J fun s8 J8=>⟨_,_,J8,q⟩
  | brk=>obtain⟨σ',H',J,q⟩:=z6; exact fin J fun s8 J8=>⟨_,_,J8,q⟩
  | cont=>obtain⟨σ',H',J,q⟩:=z6; exact fin J fun s8 J8=>⟨_,_,J8,q⟩
  | ret u=>obtain⟨v,σ',H',J,r,q⟩:=z6; exact fin J fun s8 J8=>⟨v,_,_,J8,r,q⟩
end L2
set_option maxHeartbeats 8000000
namespace L2
open PySem PySem.Spec PyProof.Rows
structure cN(K:WB)(C:Addr):Prop where
 ga:PySem.W.findIn K (.ref C) "__getattribute__"=some (some (.builtin "BaseException.__getattribute__"))
 gn:PySem.W.findIn K (.ref C) "__getattr__"=some none
 cl:PySem.W.findIn K (.ref C) "__class__"=some (some (.builtin "object.__class__"))
 mb:PySem.W.mroIn K C (.type "BaseException")=some true
 mo:PySem.W.mroIn K C (.type "object")=some true
 ty:(PySem.W.clsIn K C).isSome=true
section
variable{prog:Program}{w:World}{A:Around}{E:Value→Shared→Prop}{h:Heap}{g:Array GenState}{d:Drawn}{t:Nat}{os:OsState}{a C:Addr}{o:Obj}{K:WB}
theorem rm{R:Result→Shared→Prop}(X:K.In h)(F:cN K C)(hx:h.get? a=some o)(hc:o.cls=.ref C)(q:R (.ok (.ret (.ref C))) ⟨h,g,d,t,os⟩):
  codeAny (model prog w) A (.call (.builtin "getset_descriptor.__get__") ⟨[.builtin "object.__class__",.ref a,.ref C],[]⟩) R ⟨h,g,d,t,os⟩:=by
 have hT5:(⟨h,g,d,t,os⟩:Shared).TypeIs (.builtin "object.__class__") "getset_descriptor":=PySem.F.typeOf_object_class
 have L:=PySem.W.looks_mroIn (M:=model prog w) X F.mo
 have eo:(Value.type (".".intercalate ("object.__class__".cutAt '.').dropLast))=.type "object":=by rw [PySem.F.owner_object_class]
 refine codeAny_call_builtin PySem.F.slot_gs_get.plain PySem.F.entry_gs_get (PySem.F.slot_gs_get.check _ _ _ _ _ _ _ _ hT5 (PySem.F.args_gs_get _ _ _) ?_)
 repeat (any_goals (first | assumption | (with_reducible refine wpAny_loadPart_at hx ?_; rw [hc]) | (rw [eo]; with_reducible refine L.at ?_) | wp_step))
 refine⟨Code.quiet_builtin _ (by decide +kernel),codeAny_builtin PySem.F.entry_object_class ?_⟩
 repeat (any_goals (first | assumption | (with_reducible refine wpAny_loadPart_at hx ?_; rw [hc]) | wp_step))
theorem mX{tk:Tok}{Q:Fin→Shared→Prop}(X:K.In h)(F:cN K C)(hx:h.get? a=some o)(hc:o.cls=.ref C)(q:Q (.done (.ret (.ref C))) ⟨h,g,d,t,os⟩):
  wpAny (model prog w) A (Builtin.«object.__getattribute__» ⟨[.ref a,.str "__class__" tk],[]⟩) Q E ⟨h,g,d,t,os⟩:=by
 have hT5:(⟨h,g,d,t,os⟩:Shared).TypeIs (.builtin "object.__class__") "getset_descriptor":=PySem.F.typeOf_object_class
 have L:=PySem.W.looks_findIn (M:=model prog w) X F.cl
 have f5:=PySem.F.typeOf_object_class
 have f6:=PySem.F.slot_gs_get.lookup
 have f7:=PySem.F.slot_gs_set.lookup
 repeat (any_goals (first | assumption | (with_reducible refine wpAny_loadPart_at hx ?_; rw [hc]) | (with_reducible refine L.at ?_) | wp_step))
 refine rm X F hx hc ?_
 repeat (any_goals (first | assumption | wp_step))
theorem mY{nameV:Value}{Q:Unit→Shared→Prop}(X:K.In h)(F:cN K C)(hx:h.get? a=some o)(hc:o.cls=.ref C)(q:Q () ⟨h,g,d,t,os⟩):
  wpAny (model prog w) A (checkBuiltinCall "BaseException.__getattribute__" ⟨[.ref a,nameV],[]⟩) Q E ⟨h,g,d,t,os⟩:=by
 have hk:builtinKind "BaseException.__getattribute__"=some .slot:=by decide +kernel
 have hsplit:splitId "BaseException.__getattribute__"=some ("BaseException","__getattribute__"):=by decide +kernel
 have ha:=PySem.F.args_bexc_ga (.ref a) nameV
 have L:=PySem.W.looks_mroIn (M:=model prog w) X F.mb
 simp only [checkBuiltinCall,hk,hsplit]
 refine Yz ?_
 unfold isInstance
 repeat (first | (with_reducible refine wpAny_loadPart_at hx ?_; rw [hc]) | (with_reducible refine L.at ?_) | wp_step)
 exact q
theorem pU{tk:Tok}{R:Result→Shared→Prop}(X:K.In h)(F:cN K C)(hx:h.get? a=some o)(hc:o.cls=.ref C)(q:R (.ok (.ret (.ref C))) ⟨h,g,d,t,os⟩):
  codeAny (model prog w) A (.call (.builtin "BaseException.__getattribute__") ⟨[.ref a,.str "__class__" tk],[]⟩) R ⟨h,g,d,t,os⟩:=
 codeAny_call_builtin PySem.F.attrBase_ValueError.ga.plain PySem.F.entry_bexc_ga (mY X F hx hc (mX X F hx hc q))
theorem u6{tk:Tok}{Q:Value→Shared→Prop}(X:K.In h)(F:cN K C)(hx:h.get? a=some o)(hc:o.cls=.ref C)(q:Q (.ref C) ⟨h,g,d,t,os⟩):
  wpAny (model prog w) A (getAttrBy (.ref a) (.str "__class__" tk) false) Q E ⟨h,g,d,t,os⟩:=by
 have f3:=PySem.F.attrBase_ValueError.ga.bind (.ref a)
 have L1:=PySem.W.looks_findIn (M:=model prog w) X F.ga
 have L2:=PySem.W.looks_findIn (M:=model prog w) X F.gn
 have hx2:(Value.builtin "BaseException.__getattribute__"==Value.builtin "object.__getattribute__")=false:=by decide +kernel
 have hx1:(onTheHeap (Value.ref C)&&Value.builtin "BaseException.__getattribute__"==Value.builtin "object.__getattribute__")=false:=by rw [hx2]; rfl
 repeat (any_goals (first | assumption | (with_reducible refine wpAny_loadPart_at hx ?_; rw [hc]) | (with_reducible refine L1.at ?_) | (with_reducible refine L2.at ?_) | wp_step))
 refine pU X F hx hc ?_
 repeat (any_goals (first | assumption | wp_step))
theorem pV{Q:Option Value→Shared→Prop}(X:K.In h)(F:cN K C)(hx:h.get? a=some o)(hc:o.cls=.ref C)(q:Q (some (.ref C)) ⟨h,g,d,t+1,os⟩):
  wpAny (model prog w) A (getAttr? (.ref a) "__class__") Q E ⟨h,g,d,t,os⟩:=by
 unfold getAttr? getAttrBy?
 repeat (any_goals (first | assumption | (with_reducible refine u6 X F hx hc ?_) | wp_step))
end
end L2
set_option maxHeartbeats 4000000
namespace L2
open PySem PySem.Spec PyProof.Rows
theorem mz{K:WB}{a C:Addr}(F:cN K C):PySem.W.KitX K (.ref a) (.ref C) (fun h=>∃ o,h.get? a=some o∧o.cls=.ref C) where
 ty:=fun M h _ ⟨o,h1,h2⟩=>h2▸(PySem.W.Looks.ld h1).andThen .now
 it:=fun _ _ X _=>by
  have z:=F.ty
  unfold PySem.W.clsIn at z
  split at z
  ·rename_i c' d' cd' sl' ho
   intro A' Q' E' s' k q
   unfold isType loadHead
   exact Yz (wpAny_loadPart (k _ _ (X _ _ ho)) (YB q))
  ·cases z
 ne:=fun h tp dd its n sl X htp=>by
  have z:=F.ty
  refine Bool.eq_false_iff.mpr fun q=>?_
  have e:C=tp:=Value.ref.inj (beq_iff_eq.mp q)
  subst e
  unfold PySem.W.clsIn at z
  split at z
  ·rename_i c' d' cd' sl' ho
   have y:=(X _ _ ho).symm.trans htp
   cases y
  ·cases z
 ca:=fun {prog w A E Q s} X p q=>by
  obtain⟨h,g,d,t,os⟩:=s
  obtain⟨o,h1,h2⟩:=p
  exact pV X F h1 h2 q
def AB:V→Option Value
 | .ty T=>some (.type T)
 | .ref D=>some (.ref D)
 | _=>none
section
variable{X:Cx}
theorem uH{P:Program}{w:World}{H:Hp}{h:Heap}{a C:Addr}{dx:Option Addr}(ok:HOk P w H h)(e:H a=some (lu C a dx)):∃ o,h.get? a=some o∧o.cls=.ref C:=let ⟨o,z1,z2,_⟩:=(ok a _ e).1; ⟨o,z1,z2⟩
inductive rCall_isiXI(K:WB)(xs:List V)(H:Hp)(Q:VK):Prop | mk (a C:Addr) (dx:Option Addr) (cv:V) (c:Value) (b:Bool) (_:xs=[.ref a,cv]) (_:AB cv=some c) (_:H a=some (lu C a dx)) (_:cN K C) (_:PySem.W.kitOne K (.ref C) c=some b) (_:Q (.bl b) H)
theorem j4:bZ X (.builtin "isinstance") (rCall_isiXI X.K):=by
 intro pins s σ H xs us Q I r h
 obtain⟨a,C,dx,cv,c,b,rfl,hcv,ha,F,e,q⟩:=h
 obtain⟨u,u',rfl,rx,ry⟩:=im r
 cases rx
 have hu:u'=c:=by
  cases cv with
  | ty T=>cases ry; exact Option.some.inj hcv
  | ref D=>cases ry; exact Option.some.inj hcv
  | _=>cases hcv
 subst hu
 exact PySem.W.kia_one (mz F) I.kIn (uH I.hok ha) e (fun z=>nomatch z) fun tk=>⟨.bl b,H,I.tok tk,rfl,q⟩
inductive rCall_isiXtI(K:WB)(xs:List V)(H:Hp)(Q:VK):Prop | mk (a C p:Addr) (dx:Option Addr) (ds:List Addr) (b:Bool) (_:xs=[.ref a,.ref p]) (_:H p=some (.tup (ds.map V.ref))) (_:H a=some (lu C a dx)) (_:cN K C) (_:PySem.W.kitAny K (.ref C) (ds.map Value.ref)=some b) (_:Q (.bl b) H)
theorem oF:bZ X (.builtin "isinstance") (rCall_isiXtI X.K):=by
 intro pins s σ H xs us Q I r h
 obtain⟨a,C,p,dx,ds,b,rfl,hp,ha,F,e,q⟩:=h
 obtain⟨u,u',rfl,rx,ry⟩:=im r
 cases rx
 cases ry
 obtain⟨_,its,rv,o,h1,h2,n,h3⟩:=I.hok p _ hp
 have hits:its=ds.map Value.ref:=by
  have : ∀ (ds:List Addr) (its:List Value),ax (ds.map V.ref) its→its=ds.map Value.ref:=by
   intro ds
   induction ds with
   | nil=>intro its r; cases r; rfl
   | cons x r ih=>intro its rr; cases rr with | cons y t=>cases y; rw [ih _ t]; rfl
  exact this ds its rv
 obtain⟨oc,od,odt,osl⟩:=o
 cases h2
 cases h3
 rw [hits] at h1
 exact PySem.W.kia_tup (mz F) I.kIn (uH I.hok ha) h1 e (fun z=>nomatch z) fun tk=>⟨.bl b,H,I.tok tk,rfl,q⟩
end
def bc(P:Program)(w:World)(K:WB)(mg:Str→Option Value)(base:Heap)(x:Str)(k:Nat)(ps:List Str)(sp:Sp):Prop:=
 ∃ f fd,mg x=some (.ref f)∧PySem.W.keepIn K (.ref f)=true∧ce K fd ps []∧cC P w K mg base (CX1 P w) k f fd ps sp
theorem kN{X:Cx}{E:XK}{x:Str}{k:Nat}{ps:List Str}{sp:Sp}{p pos:Pos}{e:Expr}{es:List Expr}{t:TA}(fr:cj X)(D:bc X.prog X.w X.K X.mg X.base x k ps sp)(hr:aO k X.A)(hg:Gl X x)(ha:PA (X.exc E) (e::es) t)
  (hdb:(x==("__debug__":Str))=false:=by decide) (he:starEach (e::es) X.env=(false,eval e X.env)::starEach es X.env:=by rfl) (hpl:(backTo pos (starEach es X.env)).any (·.1)=false:=by rfl) :
  PE (X.exc E) (.Call (.Name x p) (e::es) [] pos) (iQ sp [] E t):=by
 obtain⟨f,fd,hm,hk,hb,F⟩:=D
 exact pz (X:=X.exc E) F hr hg hm hk hb .nil (pA fr) ha hdb he hpl
theorem mF{X:Cx}{N':List Str}{scope:Scope}{cl:List (Str×Addr)}{C:Addr}{ex:List Addr}{s:Shared}{H:Hp}(f:cj X):cj (ak X N' scope cl C ex s H):=f
theorem gf{X:Cx}{pn:List (Addr×Obj)}(f:cj X):cj (X.pnd pn):=f
theorem ah.mkE{P:Program}{w:World}{K:WB}{mg:Str→Option Value}{base:Heap}{x:Str}{st:Stmt}{N ps:List Str}{k:Nat}{sp:Sp}(F:ah K mg x st ps)(S:ai N ps (ag st))(len:∀ vs H Q E,sp vs H Q E→vs.length=ps.length)
  (hbody:∀ (f:Addr) (cdv:Value) (A:Around) (outer:List Env) (s:Shared) (H:Hp) (vs:List V) (Q:VK) (E:XK),aO k (A.deeper (envOfC x (ag st) s.heap.objs.size f cdv))→sp vs H Q E→
   ∃ t,PSs ((jx (CX1 P w) P w K mg base N x (ag st) f cdv A outer s H E).exc E) (bD st) t∧t {nx:=fun _ H'=>Q .non H',rt:=Q} (cq N vs) H):bc P w K mg base x (k+1) ps sp:=by
 obtain⟨f,fd,Fn,hm,hb⟩:=F.ex
 exact⟨f,fd,hm,Fn.kp,hb,Fn.okE S len (hbody f)⟩
section
variable{κ:Type}[DecidableEq κ]
def bj(kvs:List (κ×V))(k:κ):Option V:=(kvs.find? fun kv=>decide (kv.1=k)).map (·.2)
def cg(kvs:List (κ×V))(k:κ)(v:V):List (κ×V):=
 if (kvs.any fun kv=>decide (kv.1=k))=true then kvs.map (fun kv=>if kv.1=k then (kv.1,v) else kv) else kvs++[(k,v)]
theorem bP{p:κ×V}{r:List (κ×V)}{k:κ}(e:p.1=k):bj (p::r) k=some p.2:=by simp [bj,XU,e]
theorem bQ{p:κ×V}{r:List (κ×V)}{k:κ}(e:¬ p.1=k):bj (p::r) k=bj r k:=by simp [bj,XU,e]
theorem gm(k:κ):∀ kvs:List (κ×V),(kvs.any fun kv=>decide (kv.1=k))=(bj kvs k).isSome
 | []=>rfl
 | p::r=>by
  rw [XW]
  by_cases e:p.1=k
  ·simp only [bP e,decide_eq_true e,Bool.true_or,Option.isSome_some]
  ·rw [bQ e,decide_eq_false e,Bool.false_or]; exact gm k r
theorem lB(k j:κ)(y:V):∀ kvs:List (κ×V),bj (kvs.map fun kv=>if kv.1=k then (kv.1,y) else kv) j=(bj kvs j).map fun x=>if j=k then y else x
 | []=>rfl
 | p::r=>by
  have ih:=lB k j y r
  rw [Y9]
  by_cases h:p.1=k
  ·rw [if_pos h]
   by_cases e:p.1=j
   ·rw [bP (p:=(p.1,y)) e,bP e,XM,if_pos (e.symm.trans h)]
   ·rw [bQ (p:=(p.1,y)) e,bQ e,ih]
  ·rw [if_neg h]
   by_cases e:p.1=j
   ·rw [bP (p:=p) e,bP e,XM,if_neg (fun z=>h (e.trans z))]
   ·rw [bQ (p:=p) e,bQ e,ih]
theorem jD(k j:κ)(y:V):∀ kvs:List (κ×V),bj kvs k=none→bj (kvs++[(k,y)]) j=if j=k then some y else bj kvs j
 | [],_=>by
  by_cases e:k=j
  ·rw [if_pos e.symm]; exact bP (p:=(k,y)) e
  ·rw [if_neg (fun z=>e z.symm)]; exact bQ (p:=(k,y)) e
 | p::r,hn=>by
  rw [List.cons_append]
  have hk:¬ p.1=k:=fun z=>by rw [bP z] at hn; cases hn
  rw [bQ hk] at hn
  have ih:=jD k j y r hn
  by_cases e:p.1=j
  ·rw [bP e,bP e,if_neg (fun z=>hk (e.trans z))]
  ·rw [bQ e,bQ e,ih]
theorem eK(kvs:List (κ×V))(k j:κ)(y:V):bj (cg kvs k y) j=if j=k then some y else bj kvs j:=by
 unfold cg
 by_cases a:(kvs.any fun kv=>decide (kv.1=k))=true
 ·rw [if_pos a,lB]
  rw [gm] at a
  by_cases e:j=k
  ·obtain⟨x,hx⟩:=Option.isSome_iff_exists.mp a
   rw [if_pos e,e,hx,XM,if_pos rfl]
  ·rw [if_neg e]
   cases bj kvs j with
   | none=>rfl
   | some x=>rw [XM,if_neg e]
 ·rw [if_neg a]
  refine jD k j y kvs ?_
  rw [gm] at a
  cases q:bj kvs k with
  | none=>rfl
  | some x=>rw [q] at a; exact(a rfl).elim
theorem bz(kvs:List (κ×V))(k:κ)(v:V):(cg kvs k v).length≤kvs.length+1:=by
 unfold cg
 split
 ·rw [YC]; omega
 ·rw [YY,YR,List.length_nil]; omega
theorem eJ.isSome_eq{o:Option V}{u:Option Value}(r:eJ o u):o.isSome=u.isSome:=by
 cases o with
 | none=>cases u with
  | none=>rfl
  | some _=>exact(show False from r).elim
 | some _=>cases u with
  | none=>exact(show False from r).elim
  | some _=>rfl
theorem eJ.getD{o:Option V}{u:Option Value}{d:V}{d':Value}(r:eJ o u)(rd:ar d d'):ar (o.getD d) (u.getD d'):=by
 cases o with
 | none=>cases u with
  | none=>exact rd
  | some _=>exact(show False from r).elim
 | some _=>cases u with
  | none=>exact(show False from r).elim
  | some _=>exact r
theorem KV.val{kvs:List (κ×V)}{vs:List (κ×Value)}(r:KV kvs vs)(k:κ):eJ (bj kvs k) (valueAt vs k):=by
 unfold KV at r
 induction r with
 | nil=>exact True.intro
 | @cons p q ps qs h t ih=>
  obtain⟨h1,h2⟩:=h
  by_cases e:p.1=k
  ·have e':q.1=k:=h1.symm.trans e
   have b:valueAt (q::qs) k=some q.2:=by simp [valueAt,XU,e']
   rw [bP e,b]; exact h2
  ·have e':¬ q.1=k:=fun z=>e (h1.trans z)
   have b:valueAt (q::qs) k=valueAt qs k:=by simp [valueAt,XU,e']
   rw [bQ e,b]; exact ih
theorem KV.any{kvs:List (κ×V)}{vs:List (κ×Value)}(r:KV kvs vs)(k:κ):(kvs.any fun kv=>decide (kv.1=k))=vs.any fun kv=>decide (kv.1=k):=by
 unfold KV at r
 induction r with
 | nil=>rfl
 | cons h t ih=>rw [XW,XW,ih,h.1]
theorem KV.repl{kvs:List (κ×V)}{vs:List (κ×Value)}(r:KV kvs vs)(k:κ){y:V}{u:Value}(ry:ar y u):
  KV (kvs.map fun kv=>if kv.1=k then (kv.1,y) else kv) (vs.map fun kv=>if kv.1=k then (kv.1,u) else kv):=by
 unfold KV at r ⊢
 induction r with
 | nil=>exact .nil
 | @cons p q ps qs h t ih=>
  rw [Y9,Y9]
  refine .cons ?_ ih
  obtain⟨h1,h2⟩:=h
  by_cases e:p.1=k
  ·rw [if_pos e,if_pos (h1.symm.trans e)]; exact⟨h1,ry⟩
  ·rw [if_neg e,if_neg (fun z=>e (h1.trans z))]; exact⟨h1,h2⟩
theorem KV.put{kvs:List (κ×V)}{vs:List (κ×Value)}(r:KV kvs vs)(k:κ){y:V}{u:Value}(ry:ar y u):KV (cg kvs k y) (stored vs k u):=by
 unfold cg stored
 rw [r.any k]
 by_cases e:(vs.any fun kv=>decide (kv.1=k))=true
 ·rw [if_pos e,if_pos e]; exact r.repl k ry
 ·rw [if_neg e,if_neg e]; exact Paired.snoc r ⟨rfl,ry⟩
theorem KV.keys{kvs:List (κ×V)}{vs:List (κ×Value)}(r:KV kvs vs):kvs.map (·.1)=vs.map (·.1):=by
 unfold KV at r
 induction r with
 | nil=>rfl
 | cons h t ih=>rw [Y9,Y9,ih,h.1]
theorem KV.length{kvs:List (κ×V)}{vs:List (κ×Value)}(r:KV kvs vs):kvs.length=vs.length:=Paired.length r
end
theorem jh{P:Program}{w:World}{k:Key}{u:Value}(r:ar (kV k) u):(aE P w).is k u=true:=by
 cases k with
 | inl i=>obtain⟨t,e⟩:=(show ∃ t,u=Value.int i t from r); subst e; exact mr P w i t
 | inr x=>obtain⟨t,e⟩:=(show ∃ t,u=Value.str x t from r); subst e; exact mq P w x t
theorem jR{P:Program}{w:World}:∀ {ks:List Key} {us:List Value},ax (ks.map kV) us→ItemsAre (aE P w) ks us
 | [],_,r=>by rw [List.map_nil] at r; cases r; exact .nil
 | k::ks,_,r=>by
  rw [Y9] at r
  cases r with
  | cons h t=>exact .cons (jh h) (jR t)
abbrev KT(H:Hp):List (List Key×V)→List (List Key×Addr×Value)→Prop:=Paired fun p q=>p.1=q.1∧H q.2.1=some (.tup (p.1.map kV))∧ar p.2 q.2.2
theorem KT.val{H:Hp}{kvs:List (List Key×V)}{xs:List (List Key×Addr×Value)}(r:KT H kvs xs)(k:List Key):eJ (bj kvs k) ((atKey xs k).map (·.2)):=by
 induction r with
 | nil=>exact True.intro
 | @cons p q ps qs h t ih=>
  obtain⟨h1,_,h2⟩:=h
  by_cases e:p.1=k
  ·have e':q.1=k:=h1.symm.trans e
   have b:atKey (q::qs) k=some q.2:=by simp [atKey,XU,e']
   rw [bP e,b]; exact h2
  ·have e':¬ q.1=k:=fun z=>e (h1.trans z)
   have b:atKey (q::qs) k=atKey qs k:=by simp [atKey,XU,e']
   rw [bQ e,b]; exact ih
theorem KT.repl{H:Hp}{kvs:List (List Key×V)}{xs:List (List Key×Addr×Value)}(r:KT H kvs xs)(k:List Key){y:V}{u:Value}(ry:ar y u):
  KT H (kvs.map fun kv=>if kv.1=k then (kv.1,y) else kv) (xs.map (putAt k u)):=by
 induction r with
 | nil=>exact .nil
 | @cons p q ps qs h t ih=>
  rw [Y9,Y9]
  refine .cons ?_ ih
  obtain⟨h1,h2,h3⟩:=h
  unfold putAt
  by_cases e:p.1=k
  ·rw [if_pos e,if_pos (h1.symm.trans e)]; exact⟨h1,h2,ry⟩
  ·rw [if_neg e,if_neg (fun z=>e (h1.trans z))]; exact⟨h1,h2,h3⟩
theorem KT.put{H:Hp}{kvs:List (List Key×V)}{xs:List (List Key×Addr×Value)}(r:KT H kvs xs)(k:List Key){b:Addr}{y:V}{u:Value}(hb:H b=some (.tup (k.map kV)))(ry:ar y u):
  KT H (cg kvs k y) (storedH xs k b u):=by
 have e:(kvs.any fun kv=>decide (kv.1=k))=(atKey xs k).isSome:=by
  rw [gm,(r.val k).isSome_eq,Option.isSome_map]
 unfold cg storedH
 rw [e]
 by_cases q:(atKey xs k).isSome=true
 ·rw [if_pos q,if_pos q]; exact r.repl k ry
 ·rw [if_neg q,if_neg q]; exact Paired.snoc r ⟨rfl,hb,ry⟩
theorem KT.keeps{H H':Hp}{kvs:List (List Key×V)}{xs:List (List Key×Addr×Value)}(r:KT H kvs xs)(ht:∀ b ys,H b=some (.tup ys)→H' b=some (.tup ys)):KT H' kvs xs:=
 Paired.mapP r fun _ _ z=>⟨z.1,ht _ _ z.2.1,z.2.2⟩
section
variable{P:Program}{w:World}{H:Hp}{h:Heap}{a:Addr}
theorem wW{u:HO}(ok:HOk P w H h)(e:Rd H a u):aM P w H h a u:=e.ok ok
theorem j2{kvs:List (Key×V)}(ok:HOk P w H h)(e:Rd H a (.dK kvs)):kvs.length≤sizeLine∧(a==sysModules)=false∧∃ vs,KV kvs vs∧h.DictOf (aE P w) a vs:=
 show aM P w H h a (.dK kvs) from wW ok e
theorem uM{kvs:List (Key×V)}(ok:HOk P w H h)(e:H a=some (.dK kvs)):kvs.length≤sizeLine∧(a==sysModules)=false∧∃ vs,KV kvs vs∧h.DictOf (aE P w) a vs:=j2 ok (.inl e)
theorem jg{ks:List Key}(ok:HOk P w H h)(e:H a=some (.tup (ks.map kV))):(tupleKind (aE P w)).is h ks a:=by
 obtain⟨_,its,r,o,h1,h2,n,h3⟩:=(show aM P w H h a (.tup (ks.map kV)) from ok a _ e)
 exact⟨o,its.toArray,n,h1,h2,h3,by simpa using jR r⟩
theorem j1{kvs:List (List Key×V)}(ok:HOk P w H h)(e:Rd H a (.dT kvs)):kvs.length≤sizeLine∧(a==sysModules)=false∧
  ∃ xs,KT H kvs xs∧h.DictOfH (tupleKind (aE P w)) a xs:=by
 obtain⟨z,y,xs,r,o,es,ep,h1,h2,h3,h4,h5⟩:=(show aM P w H h a (.dT kvs) from wW ok e)
 refine⟨z,y,xs,r,o,es,ep,h1,h2,h3,h4,fun x hx=>?_,h5⟩
 have all:∀ {l:List (List Key×V)} {m:List (List Key×Addr×Value)},KT H l m→∀ x∈m,(tupleKind (aE P w)).is h x.1 x.2.1:=by
  intro l m q
  induction q with
  | nil=>intro x hx; exact nomatch hx
  | @cons p q ps qs hq t ih=>
   intro x hx
   rcases YM.mp hx with e | hx
   ·subst e
    exact jg ok (by rw [← hq.1]; exact hq.2.1)
   ·exact ih x hx
 exact all r x hx
theorem zz{kvs:List (List Key×V)}(ok:HOk P w H h)(e:H a=some (.dT kvs)):kvs.length≤sizeLine∧(a==sysModules)=false∧
  ∃ xs,KT H kvs xs∧h.DictOfH (tupleKind (aE P w)) a xs:=j1 ok (.inl e)
end
def eA(H:Hp)(a:Addr)(y:V)(r:Option V):Prop:=
 (∃ kvs k,Rd H a (.dK kvs)∧y=kV k∧r=bj kvs k)∨∃ kvs k b,Rd H a (.dT kvs)∧y=.ref b∧H b=some (.tup (k.map kV))∧r=bj kvs k
def oQ(H:Hp)(a:Addr)(y v:V)(H':Hp):Prop:=
 (∃ kvs k,H a=some (.dK kvs)∧y=kV k∧kvs.length<sizeLine∧H'=upd H a (.dK (cg kvs k v)))∨
 ∃ kvs k b,H a=some (.dT kvs)∧y=.ref b∧H b=some (.tup (k.map kV))∧kvs.length<sizeLine∧H'=upd H a (.dT (cg kvs k v))
theorem eA.k{H:Hp}{a:Addr}{kvs:List (Key×V)}{k:Key}(e:H a=some (.dK kvs)):eA H a (kV k) (bj kvs k):=.inl ⟨kvs,k,.inl e,rfl,rfl⟩
theorem oQ.k{H:Hp}{a:Addr}{kvs:List (Key×V)}{k:Key}{v:V}(e:H a=some (.dK kvs))(hl:kvs.length<sizeLine):oQ H a (kV k) v (upd H a (.dK (cg kvs k v))):=.inl ⟨kvs,k,e,rfl,hl,rfl⟩
section
variable{X:Cx}{pins:List (Addr×Obj)}{σ:St}{H:Hp}{s:Shared}{a:Addr}{y v:V}{u r:Value}{o:Option V}{A:Around}{E:Value→Shared→Prop}
theorem Inv.big(I:Inv X pins σ H s):sysModules<s.heap.objs.size:=by
 have h:mainGlobals<s.heap.objs.size:=(I.mod.glob.keeps I.bk).lt
 exact Nat.lt_trans (by decide) h
theorem qQ{Q:Value→Shared→Prop}(hu:A.units+1<cLine)(I:Inv X pins σ H s)(g:eA H a y (some v))(ry:ar y u)(h:∀ w' s',Inv X pins σ H s'→ar v w'→Q w' s'):
  wpAny (model X.prog X.w) A (getItem (.ref a) u) Q E s:=by
 rcases g with ⟨kvs,k,e,ey,l⟩ | ⟨kvs,k,b,e,ey,eb,l⟩
 ·subst ey
  obtain⟨z,hd,vs,rel,dd⟩:=j2 I.hok e
  obtain⟨w',hw,rw'⟩:=eJ.some_of (v:=v) (o:=valueAt vs k) (by rw [l]; exact rel.val k)
  exact wpAny_getItem_of (jh ry) dd.mapOf hw (h w' _ (I.tok _) rw')
 ·subst ey
  cases (show u=Value.ref b from ry)
  obtain⟨z,hd,xs,rel,dd⟩:=j1 I.hok e
  obtain⟨w',hw,rw'⟩:=eJ.some_of (v:=v) (o:=(atKey xs k).map (·.2)) (by rw [l]; exact rel.val k)
  obtain⟨p,hp,hp2⟩:=YS.mp hw
  refine wpAny_getItem_heap (tupleKind_room_in1 hu) (jg I.hok eb) dd hp ?_
  rw [hp2]
  exact h w' _ (I.tok _) rw'
theorem wM{Q:Value→Shared→Prop}(hu:A.units+1<cLine)(I:Inv X pins σ H s)(g:eA H a y o)(ry:ar y u)(h:∀ s',Inv X pins σ H s'→Q (.bool (!o.isSome)) s'):
  wpAny (model X.prog X.w) A (compareOp .NotIn u (.ref a)) Q E s:=by
 rcases g with ⟨kvs,k,e,ey,l⟩ | ⟨kvs,k,b,e,ey,eb,l⟩
 ·subst ey
  obtain⟨z,hd,vs,rel,dd⟩:=j2 I.hok e
  refine wpAny_notIn_of (jh ry) hd dd.mapOf ?_
  rw [← (rel.val k).isSome_eq,← l]
  exact h _ (I.tok _)
 ·subst ey
  cases (show u=Value.ref b from ry)
  obtain⟨z,hd,xs,rel,dd⟩:=j1 I.hok e
  refine wpAny_notIn_heap (tupleKind_room_in1 hu) (jg I.hok eb) hd dd ?_
  have q:=(rel.val k).isSome_eq
  rw [Option.isSome_map] at q
  rw [← q,← l]
  exact h _ (I.tok _)
theorem lf{h':Heap}{t':Nat}{ob:HO}(I:Inv X pins σ H s)(mu:Mut (H a))(hs:XI a s.heap h')(he:∃ q,h'.get? a=some q)(new:aM X.prog X.w (upd H a ob) h' a ob):
  Inv X pins σ (upd H a ob) {s with heap:=h',toks:=t'}:=
 I.write (x:=a) (e:=a) mu (.inl rfl) (fun b q hb z=>(hs.2 b hb).trans z) he new
theorem uN{P:Program}{w:World}{H':Hp}{h':Heap}{kvs:List (Key×V)}{vs:List (Key×Value)}(z:kvs.length≤sizeLine)(hd:(a==sysModules)=false)(rel:KV kvs vs)(dd:h'.DictOf (aE P w) a vs):
  aM P w H' h' a (.dK kvs):=⟨z,hd,vs,rel,dd⟩
theorem qP{H':Hp}{Q:Unit→Shared→Prop}(hu:A.units+1<cLine)(I:Inv X pins σ H s)(g:oQ H a y v H')(ry:ar y u)(rv:ar v r)(h:∀ s',Inv X pins σ H' s'→Q () s'):
  wpAny (model X.prog X.w) A (setItem (.ref a) u r) Q E s:=by
 rcases g with ⟨kvs,k,e,ey,l,eH⟩ | ⟨kvs,k,b,e,ey,eb,l,eH⟩
 ·subst ey eH
  obtain⟨z,hd,vs,rel,dd⟩:=uM I.hok e
  have hz:vs.length≤sizeLine:=by rw [← rel.length]; exact z
  have hl:(cg kvs k v).length≤sizeLine:=by have:=bz kvs k v; omega
  refine wpAny_setItem_pairs (hsz:=hz) (jh ry) dd fun h' dd' hs=>h _ ?_
  have he:∃ q,h'.get? a=some q:=let ⟨q,_,_,hq,_⟩:=dd'; ⟨q,hq⟩
  exact lf I (by rw [e]; exact True.intro) hs he (uN hl hd (rel.put k rv) dd')
 ·subst ey eH
  cases (show u=Value.ref b from ry)
  obtain⟨z,hd,xs,rel,dd⟩:=zz I.hok e
  have hz:xs.length≤sizeLine:=by rw [← Paired.length rel]; exact z
  have hl:(cg kvs k v).length≤sizeLine:=by have:=bz kvs k v; omega
  refine wpAny_setItem_heap (hsz:=hz) (tupleKind_room_in1 hu) (jg I.hok eb) dd fun h' dd' hs=>h _ ?_
  obtain⟨q,es,ep,hq,h2,h3,h4,_,h5⟩:=dd'
  refine lf I (by rw [e]; exact True.intro) hs ⟨q,hq⟩ ⟨hl,hd,_,(rel.put k eb rv).keeps fun c ys ec=>?_,q,es,ep,hq,h2,h3,h4,h5⟩
  rw [ae (zn ec e (fun z=>nomatch z))]
  exact ec
end
section
variable{X:Cx}{pins:List (Addr×Obj)}{σ:St}{H:Hp}{s:Shared}{a:Addr}{kvs:List (Key×V)}{k:Key}{u:Value}{A:Around}{E:Value→Shared→Prop}
end
def zC(i:Expr):Prop:=∀ ov iv,subscripted i false ov iv=operate [ov,iv] (getItem ov iv)
theorem vd{prog:Program}{w:World}{A:Around}{E:Value→Shared→Prop}{s:Shared}{env:Env}{value slice:Expr}{pos:Pos}{T id:String}{Q:Value→Shared→Prop}
  (hl:typeLookup (.type T) "__getitem__"=pure (some (.builtin id))) (hs:zC slice)
  (h:wpAny (model prog w) A (eval value env) (fun o s₁=>wpAny (model prog w) A (eval slice env) (fun i s₂=>s₂.TypeIs o T∧wpAny (model prog w) A (getItem o i) Q E s₂) E s₁) E s) :
  wpAny (model prog w) A (eval (.Subscript value slice pos) env) Q E s:=by
 refine Subscript_ (YH h (fun o s₁ h₁=>YH h₁ (fun i s₂ h₂=>?_) fun _ _ x=>x) fun _ _ x=>x)
 obtain⟨hT,h₂⟩:=h₂
 unfold subscriptTail
 refine Yz ?_
 rw [getitemInPython_of_ne hT.not_modules]
 refine Yz (wpAny_specialOf hT hl ?_)
 have fin:wpAny (model prog w) A (subscripted slice false o i) (fun r s₃=>wpAny (model prog w) A (letTemporaryGo value o r>>=fun _=>pure r) Q E s₃) E s₂:=by
  rw [hs o i]
  exact wpAny_operating (YH h₂ (fun r s₃ h₃=>Yz (wpAny_letTemporaryGo (YB h₃))) fun _ _ x=>x)
 first
  | exact YB (Yz fin)
  | exact Yz (YB (Yz fin))
  | exact Yz fin
theorem mL{X:Cx}{pins:List (Addr×Obj)}{σ:St}{H:Hp}{s:Shared}{a:Addr}{y:V}{o:Option V}(I:Inv X pins σ H s)(g:eA H a y o):s.TypeIs (.ref a) "dict":=by
 rcases g with ⟨kvs,k,e,_,_⟩ | ⟨kvs,k,b,e,_,_,_⟩
 ·obtain⟨_,_,vs,_,dd⟩:=j2 I.hok e
  exact dd.typeIs
 ·obtain⟨_,_,xs,_,dd⟩:=j1 I.hok e
  exact dd.typeIs
inductive tDGetI(Q:VK)(x y:V)(H2:Hp):Prop | mk (a v) (_:x=.ref a) (_:eA H2 a y (some v)) (_:Q v H2)
def yZ(td ty:TE):TE:=fun σ H Q=>td σ H fun x H1=>ty σ H1 (tDGetI Q x)
inductive tDNotInI(Q:VK)(y x:V)(H2:Hp):Prop | mk (a o) (_:x=.ref a) (_:eA H2 a y o) (_:Q (.bl (!o.isSome)) H2)
def u9(ty td:TE):TE:=fun σ H Q=>ty σ H fun y H1=>td σ H1 (tDNotInI Q y)
inductive sDPutI(D:gO)(σ:St)(v x y:V)(H3:Hp):Prop | mk (a H4) (_:x=.ref a) (_:oQ H3 a y v H4) (_:D.nx σ H4)
def y6(td ty tv:TE):TS:=fun D σ H=>tv σ H fun v H1=>td σ H1 fun x H2=>ty σ H2 (sDPutI D σ v x)
section
variable{X:Cx}{o i e value:Expr}{pos pos' tpos:Pos}{td ty tv:TE}
theorem vC(hu:X.A.units+1<cLine)(ho:PE X o td)(hi:PE X i ty)(hs:zC i):PE X (.Subscript o i pos) (yZ td ty):=by
 intro pins s σ H Q I h
 refine vd PySem.F.slot_dict_getitem.lookup hs (thn (ho pins s σ H _ I h) fun u s1 ⟨x,H1,I1,rx,q1⟩=>thn (hi pins s1 σ H1 _ I1 q1) fun iv s2 ⟨y,H2,I2,ry,a,v,ex,g,q2⟩=>?_)
 subst ex
 obtain rfl:u=Value.ref a:=rx
 exact⟨mL I2 g,qQ hu I2 g ry fun w' s3 I3 rw'=>⟨v,H2,I3,rw',q2⟩⟩
theorem qp(hu:X.A.units+1<cLine)(hi:PE X i ty)(ho:PE X o td):PC X .NotIn i o (u9 ty td):=by
 intro pins s σ H Q I h
 refine thn (hi pins s σ H _ I h) fun iv s1 ⟨y,H1,I1,ry,q1⟩=>thn (ho pins s1 σ H1 _ I1 q1) fun u s2 ⟨x,H2,I2,rx,a,ov,ex,g,q2⟩=>?_
 subst ex
 obtain rfl:u=Value.ref a:=rx
 exact wM hu I2 g ry fun s3 I3=>⟨.bl (!ov.isSome),H2,I3,rfl,q2⟩
theorem vp(hu:X.A.units+1<cLine)(ho:PE X o td)(hi:PE X i ty)(hv:PE X value tv)(hs:swapsWith value (some (.Subscript o i pos')) pos.line X.env=pure false):
  PS X (.Assign [.Subscript o i pos'] value pos) (y6 td ty tv):=by
 intro pins s σ H D I h
 refine wpAny_Assign_Subscript (thn (hv pins s σ H _ I h) fun r s1 ⟨v,H1,I1,rv,q1⟩=>thn (ho pins s1 σ H1 _ I1 q1) fun u s2 ⟨x,H2,I2,rx,q2⟩=>thn (hi pins s2 σ H2 _ I2 q2) fun iv s3 ⟨y,H3,I3,ry,a,H4,ex,g,q3⟩=>?_) hs
 subst ex
 obtain rfl:u=Value.ref a:=rx
 exact qP hu I3 g ry rv fun s4 I4=>⟨σ,H4,I4,q3⟩
end
theorem mK{P:Program}{w:World}{H:Hp}(h:Heap)(hb:sysModules<h.objs.size):aM P w H (h.push {cls:=.type "dict",data:=.dict #[]}) h.objs.size (.dK []):=
 ⟨YO _,beq_eq_false_iff_ne.mpr (Ne.symm (YT hb)),[],.nil,Heap.DictOf.new h⟩
def xp:TE:=fun _ H Q=>∀ p,H p=none→Q (.ref p) (upd H p (.dK []))
section
variable{X:Cx}{pos:Pos}
theorem gu:PE X (.Dict [] [] pos) xp:=fun pins s σ H Q I h=>
 wpAny_Dict_empty ⟨.ref s.heap.objs.size,_,I.laid (a:=s.heap.objs.size) (o:=.dK []) (t':=s.toks) (fun _ _ q=>YA _ q) (YD _) (mK s.heap I.big),rfl,h _ (I.hok.fresh (YD _))⟩
end
def nr:List (TE×TE)→St→Hp→(List (V×V)→Hp→Prop)→Prop
 | [],_,H,Q=>Q [] H
 | (tk,tv)::r,σ,H,Q=>tk σ H fun x H1=>tv σ H1 fun y H2=>nr r σ H2 fun ps H3=>Q ((x,y)::ps) H3
abbrev VV:List (V×V)→List (Value×Value)→Prop:=Paired fun p q=>ar p.1 q.1∧ar p.2 q.2
def PPs(X:Cx)(pos:Pos)(keys:List (Option Expr))(values:List Expr)(trs:List (TE×TE)):Prop:=
 ∀ (pins:List (Addr×Obj)) (s:Shared) (σ:St) (H:Hp) (Q:List (V×V)→Hp→Prop),Inv X pins σ H s→nr trs σ H Q→
  wpAny (model X.prog X.w) X.A (evalPairs (pairTrees keys values X.env pos)) (fun vs s'=>∃ ps H',Inv X pins σ H' s'∧VV ps vs∧Q ps H') X.xe s
theorem pj{X:Cx}{pos:Pos}:PPs X pos [] [] []:=fun pins s σ H Q I h=>pairTrees_nil_walk ⟨[],H,I,.nil,h⟩
theorem lO{X:Cx}{pos:Pos}{k v:Expr}{ks:List (Option Expr)}{vs:List Expr}{tk tv:TE}{trs:List (TE×TE)}(hk:PE X k tk)(hv:PE X v tv)(hr:PPs X pos ks vs trs):
  PPs X pos (some k::ks) (v::vs) ((tk,tv)::trs):=fun pins s σ H Q I h=>
 pairTrees_cons_walk (thn (hk pins s σ H _ I h) fun u s1 ⟨x,H1,I1,rx,q1⟩=>thn (hv pins s1 σ H1 _ I1 q1) fun w2 s2 ⟨y,H2,I2,ry,q2⟩=>
  thn (hr pins s2 σ H2 _ I2 q2) fun ws s3 ⟨ps,H3,I3,rel,q3⟩=>⟨(x,y)::ps,H3,I3,.cons ⟨rx,ry⟩ rel,q3⟩)
def jd(kvs more:List (Key×V)):List (Key×V):=more.foldl (fun acc kv=>cg acc kv.1 kv.2) kvs
theorem KV.merge:∀ {more:List (Key×V)} {rs:List (Key×Value)} {kvs:List (Key×V)} {vs:List (Key×Value)},KV more rs→KV kvs vs→KV (jd kvs more) (merged vs rs):=by
 intro more rs kvs vs r
 unfold KV at r
 induction r generalizing kvs vs with
 | nil=>intro q; exact q
 | @cons p q ps qs h t ih=>
  intro r0
  have e:KV (cg kvs p.1 p.2) (stored vs q.1 q.2):=by
   have:=r0.put p.1 h.2
   rw [← h.1]; exact this
  exact ih e
theorem fP:∀ (more kvs:List (Key×V)),(jd kvs more).length≤kvs.length+more.length
 | [],kvs=>by show kvs.length≤kvs.length+0; omega
 | p::r,kvs=>by
  have h1:=fP r (cg kvs p.1 p.2)
  have h2:=bz kvs p.1 p.2
  show (jd (cg kvs p.1 p.2) r).length≤_
  rw [YR]; omega
theorem jq{P:Program}{w:World}:∀ {kvs:List (Key×V)} {ws:List (Value×Value)},VV (kvs.map fun kv=>(kV kv.1,kv.2)) ws→∃ rs,Carries (aE P w) ws rs∧KV kvs rs
 | [],_,r=>by rw [List.map_nil] at r; cases r; exact⟨[],True.intro,.nil⟩
 | p::kvs,_,r=>by
  rw [Y9] at r
  cases r with
  | @cons a b as bs h t=>
   obtain⟨rs,c,q⟩:=jq (P:=P) (w:=w) t
   obtain⟨b1,b2⟩:=b
   exact⟨(p.1,b2)::rs,⟨jh h.1,rfl,c⟩,.cons ⟨rfl,h.2⟩ q⟩
def yY(trs:List (TE×TE)):TE:=fun σ H Q=>∀ p,H p=none→nr trs σ (upd H p (.dK [])) fun ps H2=>H2 p=some (.dK [])∧∃ kvs:List (Key×V),ps=kvs.map (fun kv=>(kV kv.1,kv.2))∧kvs.length≤15∧Q (.ref p) (upd H2 p (.dK (jd [] kvs)))
theorem pv{X:Cx}{pos:Pos}{keys:List (Option Expr)}{values:List Expr}{trs:List (TE×TE)}(h:PPs X pos keys values trs)(hall:keys.all (·.isSome)=true)(hl:keys.length=values.length)(h0:keys≠[])
  (h15:keys.length≤15):PE X (.Dict keys values pos) (yY trs):=by
 intro pins s σ H Q I q
 have hn:=I.hok.fresh (YD s.heap.objs.size)
 have I1:=I.laid (a:=s.heap.objs.size) (o:=.dK []) (h':=s.heap.push {cls:=.type "dict",data:=.dict #[]}) (t':=s.toks) (fun _ _ q=>YA _ q) (YD _) (mK s.heap I.big)
 refine wpAny_Dict_walk (knd:=aE X.prog X.w) hall hl h0 h15 (thn (h pins _ σ _ _ I1 (q _ hn)) fun ws s2 ⟨ps,H2,I2,rel,e,kvs,ep,lk,q2⟩=>?_)
 subst ep
 obtain⟨rs,c,rk⟩:=jq (P:=X.prog) (w:=X.w) rel
 obtain⟨z,hd,vs0,r0,dd⟩:=uM I2.hok e
 cases r0
 refine⟨rs,c,dd,fun h' dd' hs=>⟨.ref s.heap.objs.size,_,?_,rfl,q2⟩⟩
 have hz:(jd [] kvs).length≤sizeLine:=by
  have h1:=fP kvs []
  rw [List.length_nil] at h1
  rw [sizeLine_eq]; omega
 have he:∃ q,h'.get? s.heap.objs.size=some q:=let ⟨q,_,_,hq,_⟩:=dd'; ⟨q,hq⟩
 exact lf I2 (by rw [e]; exact True.intro) hs he (uN hz hd (rk.merge .nil) dd')
structure M1(X:Cx)(o:Expr)(m:Str)(apos:Pos)(e:Expr)(cpos:Pos):Prop where
 base:attributeBase o m X.env (eval o X.env)=eval o X.env
 few:((backTo cpos (starEach [e] X.env)).all (fun x=>!x.1)&&(backToKw cpos (keywordEach [] X.env)).all (fun x=>x.1.isSome)
  && decide (([e]:List Expr).length+([]:List Keyword).length+(if ([]:List Keyword).isEmpty then 0 else 1)<30))=true
 line:(apos.endLine==cpos.line)=true
 trees:backTo cpos (starEach [e] X.env)=[(false,eval e X.env)]
structure M2(X:Cx)(o:Expr)(m:Str)(apos:Pos)(e f:Expr)(cpos:Pos):Prop where
 base:attributeBase o m X.env (eval o X.env)=eval o X.env
 few:((backTo cpos (starEach [e,f] X.env)).all (fun x=>!x.1)&&(backToKw cpos (keywordEach [] X.env)).all (fun x=>x.1.isSome)
  && decide (([e,f]:List Expr).length+([]:List Keyword).length+(if ([]:List Keyword).isEmpty then 0 else 1)<30))=true
 line:(apos.endLine==cpos.line)=true
 trees:backTo cpos (starEach [e,f] X.env)=[(false,eval e X.env),(false,eval f X.env)]
def IsD(H:Hp)(a:Addr):Prop:=(∃ kvs,Rd H a (.dK kvs))∨∃ kvs,Rd H a (.dT kvs)
theorem yx{X:Cx}{pins:List (Addr×Obj)}{σ:St}{H:Hp}{s:Shared}{a:Addr}(I:Inv X pins σ H s)(d:IsD H a):
  s.TypeIs (.ref a) "dict"∧(∀ b,Value.ref a=.ref b→∃ ob,s.heap.get? b=some ob∧ob.dict=none)∧(a==sysModules)=false:=by
 rcases d with ⟨kvs,e⟩ | ⟨kvs,e⟩
 ·obtain⟨_,hd,vs,_,dd⟩:=j2 I.hok e
  refine⟨dd.typeIs,fun b q=>?_,hd⟩
  cases q
  obtain⟨ob,_,_,h1,h2,_⟩:=dd
  exact⟨ob,h1,h2.2.1⟩
 ·obtain⟨_,hd,xs,_,dd⟩:=j1 I.hok e
  refine⟨dd.typeIs,fun b q=>?_,hd⟩
  cases q
  obtain⟨ob,_,_,h1,h2,_⟩:=dd
  exact⟨ob,h1,h2.2.1⟩
section
variable{X:Cx}{pins:List (Addr×Obj)}{σ:St}{H:Hp}{s:Shared}{a:Addr}{y d:V}{u r:Value}{o:Option V}{A:Around}{E:Value→Shared→Prop}
theorem yE{Q:Value→Shared→Prop}(hu:A.units+1<cLine)(I:Inv X pins σ H s)(g:eA H a y o)(ry:ar y u)(h:∀ w' s',Inv X pins σ H s'→ar (o.getD .non) w'→Q w' s'):
  wpAny (model X.prog X.w) A (call (.builtin "dict.get") [.ref a,u]) Q E s:=by
 rcases g with ⟨kvs,k,e,ey,l⟩ | ⟨kvs,k,b,e,ey,eb,l⟩
 ·subst ey
  obtain⟨z,hd,vs,rel,dd⟩:=j2 I.hok e
  refine call_meetsIn PySem.F.slot_dict_get dd.typeIs PySem.F.entry_dict_get (PySem.F.args_dict_get_2 _ _) (meets_dict_get (aE X.prog X.w) a (jh ry) hd) ⟨_,dd.mapOf,h _ _ (I.tok _) ?_⟩
  rw [l]
  exact(rel.val k).getD rfl
 ·subst ey
  cases (show u=Value.ref b from ry)
  obtain⟨z,hd,xs,rel,dd⟩:=j1 I.hok e
  refine call_meetsIn PySem.F.slot_dict_get dd.typeIs PySem.F.entry_dict_get (PySem.F.args_dict_get_2 _ _) (meetsH_dict_get (tupleKind (aE X.prog X.w)) a b hd) ⟨tupleKind_room_in1 hu,k,xs,jg I.hok eb,dd,h _ _ (I.tok _) ?_⟩
  rw [l]
  exact(rel.val k).getD rfl
end
inductive tDGet1I(ty:TE)(σ:St)(Q:VK)(x:V)(H1:Hp):Prop | mk (a) (_:x=.ref a) (_:IsD H1 a) (_:ty σ H1 fun y H2=>∃ o,eA H2 a y o∧Q (o.getD .non) H2)
def xq(td ty:TE):TE:=fun σ H Q=>td σ H (tDGet1I ty σ Q)
section
variable{X:Cx}{o e f:Expr}{apos cpos:Pos}{td ty tx:TE}
theorem sI(hu:X.A.units+1<cLine)(ho:PE X o td)(he:PE X e ty)(m:M1 X o "get" apos e cpos):PE X (.Call (.Attribute o "get" apos) [e] [] cpos) (xq td ty):=by
 intro pins s σ H Q I h
 refine wpAny_Call_method m.base m.few m.line PySem.F.plainAttrs_dict PySem.F.slot_dict_get PySem.F.type_dict_get (thn (ho pins s σ H _ I h) fun u s1 ⟨x,H1,I1,rx,a,ex,d,q1⟩=>?_)
 subst ex
 obtain rfl:u=Value.ref a:=rx
 obtain⟨t1,t2,_⟩:=yx I1 d
 refine⟨t1,t2,?_⟩
 rw [m.trees]
 refine Calls.callWith_builtin rfl (Calls.evalArgs_plain (Calls.spliced_cons (thn (he pins s1 σ H1 _ I1 q1) fun iv s2 ⟨y,H2,I2,ry,ov,g,q2⟩=>Calls.spliced_nil ?_)))
 exact yE hu I2 g ry fun w' s3 I3 rw'=>⟨_,H2,I3,rw',q2⟩
end
section
variable{X:Cx}{pins:List (Addr×Obj)}{σ:St}{H:Hp}{s:Shared}{a:Addr}{kvs:List (Key×V)}{A:Around}{E:Value→Shared→Prop}
end
section
variable{X:Cx}{pins:List (Addr×Obj)}{σ:St}{H:Hp}{s:Shared}{a:Addr}{y:V}{u:Value}{A:Around}{E:Value→Shared→Prop}
end
section
variable{κ:Type}[DecidableEq κ]
end
theorem fM{prog:Program}{w:World}{A:Around}{R:Result→Shared→Prop}{s:Shared}{elt cnd target iter:Expr}{scope:Scope}{pos:Pos}{it acc:Value}{env:Env}(I:Nat→Shared→Prop)
  (turn:∀ n s,I n s→wpAny (model prog w) A (pyNext it) (fun r s1=>match r with
   | none=>R (.ok .next) s1
   | some v=>wpAny (model prog w) A (letOwnedTupleGo target it v) (fun _ s1'=>wpAny (model prog w) A (assign target env v) (fun _ s2=>
     wpAny (model prog w) A (isTrue cnd env (eval cnd env)) (fun b s3=>if b=true then wpAny (model prog w) A (eval elt env) (fun x s4=>
       wpAny (model prog w) A (call (.builtin "list.append") [acc,x]) (fun _ s5=>∃ m,m<n∧I m s5) (notedBy (model prog w) A env fun e s'=>R (.error e) s') s4) (notedBy (model prog w) A env fun e s'=>R (.error e) s') s3 else ∃ m,m<n∧I m s3) (notedBy (model prog w) A env fun e s'=>R (.error e) s') s2)
     (notedBy (model prog w) A env fun e s'=>R (.error e) s') s1') (notedBy (model prog w) A env fun e s'=>R (.error e) s') s1) (notedBy (model prog w) A env fun e s'=>R (.error e) s') s)
  (n:Nat) (h:I n s):codeAny (model prog w) A (.compLoop (.ListComp elt [⟨target,iter,[cnd],0⟩] scope pos) 0 it acc env) R s:=by
 refine codeAny_loop rfl I (fun n s hI=>?_) n h
 show wpAny _ A ((compTurn (.ListComp elt [⟨target,iter,[cnd],0⟩] scope pos) 0 it acc env).onRaise (fun x=>do noteFrame x env; theTreesLotGoes x)) _ _ s
 refine wpAny_noted ?_
 rw [compTurn_list]
 refine Yz (wpAny_standAt (Yz (YH (turn n s hI) (fun r s1 h1=>?_) fun _ _ h'=>h')))
 cases r with
 | none=>exact YB h1
 | some v=>
  refine Yz (YH h1 (fun _ s1' h1'=>?_) fun _ _ h'=>h')
  refine Yz (YH h1' (fun _ s2 h2=>Yz (YH (wpAny_tests_one h2) (fun ok s3 h3=>?_) fun _ _ h'=>h')) fun _ _ h'=>h')
  cases ok with
  | true=>exact Yz (Yz (YH h3 (fun x s4 h4=>Yz (YH h4 (fun _ s5 h5=>YB (YB ⟨rfl,h5⟩)) fun _ _ h'=>h')) fun _ _ h'=>h'))
  | false=>exact Yz (YB (YB ⟨rfl,h3⟩))
def pT(n:Nat)(J:It)(g:TG)(tc:TT)(te:TE)(σ:St)(H:Hp)(Q:VK):Prop:=
 ∃ W:Nat→Nat→List V→St→Hp→Prop,(∃ m,W 0 m [] (List.replicate n none++σ) H)∧∀ i m ys σ' H,W i m ys σ' H→
  (J.stop i H∧∀ D,H D=none→Q (.ref D) (upd H D (.lst ys)))∨
  (J.go i H∧ys.length<sizeLine∧∀ x H',J.yld i H x H'→g x σ' H' fun σ2 H2=>tc σ2 H2 fun b H3=>if b=true then ∃ N:VK,te σ2 H3 N∧∀ v H4,N v H4→∃ m',m'<m∧W (i+1) m' (ys++[v]) σ2 H4 else ∃ m',m'<m∧W (i+1) m' ys σ2 H3)
def rM(n:Nat)(wi:TI)(g:ay TG)(tc:ay TT)(te:ay TE):TE:=fun σ H Q=>wi σ H fun J H1=>∀ cl C ex s Hc,pT n J (g cl C ex s Hc) (tc cl C ex s Hc) (te cl C ex s Hc) σ H1 Q
section
variable{X:Cx}{n:Nat}{N':List Str}{scope:Scope}{elt cnd tg iter:Expr}{pos:Pos}{pins:List (Addr×Obj)}{σ:St}{H2:Hp}{s2:Shared}{cl:List (Str×Addr)}
theorem mM{E0:XK}{it:Addr}{fp:List Addr}{tn:Nat→Heap→Prop}{J:It}{g:ay TG}{tc:ay TT}{te:ay TE}{Q:VK}{E:Value→Shared→Prop}
  (hc:X.calm=true) (S:aK n N' X scope) (c1:∀ x c,cl.lookup x=some c→X.env.cells.lookup x=some c) (c2:∀ x∈scope.names,x.2=.free→∃ c,cl.lookup x.1=some c)
  (I2:Inv X pins σ H2 s2) (T:jt X.prog X.w X.K tg J fp it tn) (st2:tn 0 s2.heap) (f2:∀ b∈fp,d3 X pins H2 b)
  (hg:∀ cl C ex s H,PG ((ak X N' scope cl C ex s H).exc E0) tg (g cl C ex s H)) (hcn:∀ cl C ex s H,PT ((ak X N' scope cl C ex s H).exc E0) cnd (tc cl C ex s H)) (he:∀ cl C ex s H,PE ((ak X N' scope cl C ex s H).exc E0) elt (te cl C ex s H))
  (cok:∀ cl C ex s Hc,pT n J (g cl C ex s Hc) (tc cl C ex s Hc) (te cl C ex s Hc) σ H2 Q) :
  wpAny (model X.prog X.w) X.A (newList []) (fun acc s3=>wpAny (model X.prog X.w) X.A (newFunctionEnv scope X.env.globals cl [] X.env.qual none .none (some X.env)) (fun cenv s4=>
   codeAny (model X.prog X.w) X.A (.compStart (.ListComp elt [⟨tg,iter,[cnd],0⟩] scope pos) 0 (.ref it) acc {cenv with scope:=relabel scope X.env})
    (fun r s'=>match r with | .ok _=>bK X pins σ Q acc cenv.locals s' | .error x=>bU (ak X N' scope cl cenv.locals fp s2 H2) E0 x s') s4) E s3) E s2:=by
 have fl:∀ b∈fp,@LT.lt Nat _ b s2.heap.objs.size:=fun b hb=>by
  obtain⟨o,e,_⟩:=T.obj _ _ st2 b hb
  exact YF e
 have frl:∀ b∈frs X.stack,@LT.lt Nat _ b s2.heap.objs.size:=fun b hb=>by
  obtain⟨_,o,ho,_⟩:=I2.stack.mem hb
  exact YF ho
 have celll:∀ x c,X.env.cells.lookup x=some c→@LT.lt Nat _ c s2.heap.objs.size:=fun x c e=>by
  obtain⟨v,q⟩:=I2.cell x c e
  exact q.lt
 refine wpAny_newObj_type (wpAny_newFunctionEnv S.cell (by intro y hy; simp at hy) (fun h1 hns1 hsb1=>?_) S.kind)
 dsimp only at hns1 hsb1 ⊢
 generalize hH2:s2.heap.push {cls:=.type "list",dict:=none,data:=.seq ([]:List Value).toArray}=G at hns1 hsb1 ⊢
 have hC:@Eq Nat G.objs.size (s2.heap.objs.size+1):=by rw [← hH2,XD]
 have hDC:s2.heap.objs.size≠G.objs.size:=by show @Ne Nat _ _; omega
 have below:∀ b,@LT.lt Nat _ b s2.heap.objs.size→b≠G.objs.size∧b≠s2.heap.objs.size:=fun b hb=>⟨by show @Ne Nat _ _; omega,YT hb⟩
 have old:∀ b o,s2.heap.get? b=some o→h1.get? b=some o:=fun b o e=>hsb1.extBut b o (below b (YF e)).1 (YA _ (hH2▸YA _ e))
 have hacc:h1.get? s2.heap.objs.size=some {cls:=.type "list",data:=.seq ([]:List Value).toArray 0}:=hsb1.extBut _ _ hDC (YA _ (hH2▸YJ _ rfl))
 have hst1:tn 0 h1:=T.keep _ _ _ st2 fun b hb o e=>old b o e
 let X':=ak X N' scope cl G.objs.size fp s2 H2
 obtain⟨W,⟨m0,w0⟩,turn⟩:=cok cl G.objs.size fp s2 H2
 have hXe:X'.xe=X.xe:=rfl
 have stat:∀ {H':Hp} {ps:List (Addr×Obj)},(∀ b∈fp,H' b=none)→(∀ p∈ps,p.1=s2.heap.objs.size)→∀ b∈fp,d3 X' ps H' b:=fun {H' ps} hn hp b hb=>by
  obtain⟨f0,f1,ff,f3,f4,f5⟩:=f2 b hb
  refine⟨hn b hb,(below b (fl b hb)).1,fun z=>?_,.inl hb,fun x c e z=>?_,fun p hp' z=>?_⟩
  ·exact(YM.mp (I2.stkSub b z)).elim f1 ff
  ·exact f4 x c (c1 x c e) z
  ·have e:p.1=s2.heap.objs.size:=hp p (by simpa [X',ak] using hp')
   exact(below b (fl b hb)).2 (z.symm.trans e)
 have loop:∀ s3:Shared,s3={s2 with heap:=h1,toks:=s2.toks+([]:List (Str×Value)).length}→
   codeAny (model X.prog X.w) X.A (.compLoop (.ListComp elt [⟨tg,iter,[cnd],0⟩] scope pos) 0 (.ref it) (.ref s2.heap.objs.size) (compEnvC scope cl G.objs.size X.env))
    (fun r s'=>match r with | .ok _=>bK X pins σ Q (.ref s2.heap.objs.size) G.objs.size s' | .error x=>bU (ak X N' scope cl G.objs.size fp s2 H2) E0 x s') s3:=by
  rintro s3 rfl
  have I3:=jo (us:=[]) (k:=0) (s':={s2 with heap:=h1,toks:=s2.toks+([]:List (Str×Value)).length}) S c1 c2 I2 f2 fl rfl hC rfl rfl old ⟨_,hns1⟩ hacc
  refine fM (fun m s'=>∃ i ys us k σ' H',Inv X' [(s2.heap.objs.size,{cls:=.type "list",data:=.seq (us:List Value).toArray k})] σ' H' s'∧ax ys us∧tn i s'.heap∧(∀ b∈fp,H' b=none)∧ys.length≤sizeLine∧W i m ys σ' H') ?_ m0
   ⟨0,[],[],0,_,H2,I3,.nil,hst1,fun b hb=>(f2 b hb).1,YO _,w0⟩
  rintro m s' ⟨i,ys,us,k,σ',H',I',rv,st',fr',hlen,w'⟩
  rcases turn i m ys σ' H' w' with ⟨stop,q⟩ | ⟨go,hlt,step⟩
  ·refine thn (T.done X' rfl rfl rfl hc i _ s' σ' H' _ I' (stat fr' (by simp)) st' stop) fun r s4 ⟨hr,I4⟩=>?_
   subst hr
   show bK X pins σ Q (.ref s2.heap.objs.size) G.objs.size s4
   obtain⟨m1,hn1,_⟩:=I4.loc
   obtain⟨pD,nD,_,_,_⟩:=I4.pin (s2.heap.objs.size,{cls:=.type "list",data:=.seq us.toArray k}) (YI _ (by simp))
   have nD:H' s2.heap.objs.size=none:=nD
   have pD:s4.heap.get? s2.heap.objs.size=some {cls:=.type "list",data:=.seq us.toArray k}:=pD
   have hok:HOk X.prog X.w (upd H' s2.heap.objs.size (.lst ys)) s4.heap:=fun b u e=>by
    by_cases hb:b=s2.heap.objs.size
    ·subst hb
     rw [aa] at e; cases e
     exact⟨hlen,us,k,rv,pD⟩
    ·rw [ae hb] at e
     exact(I4.hok b u e).stay (fun _ _ _ q=>q) (fun c q=>by rw [ae (af q nD)]; exact q) fun c xs q=>by rw [ae (af q nD)]; exact q
   have un:Un (frs X.stack) fp H2 (upd H' s2.heap.objs.size (.lst ys)) s2.heap s4.heap:=by
    have u0:=I4.base
    refine⟨u0.keep,u0.slot,fun b o e n hx=>?_,u0.there,fun b xs e=>?_,fun b o xs e=>?_,fun b ps e=>?_⟩
    ·rw [ae (below b (YF e)).2]; exact u0.free b o e n hx
    ·have q:=u0.tups b xs e
     rw [ae (af q nD)]; exact q
    ·have q:=u0.frzs b o xs e
     rw [ae (af q nD)]; exact q
    ·obtain⟨more,q⟩:=u0.tbls b ps e
     exact⟨more,by rw [ae (af q nD)]; exact q⟩
   have IX:Inv X pins σ (upd H' s2.heap.objs.size (.lst ys)) s4:=I2.call' (ch:=fp) I4.os un hok I4.bare fun b hb=>by
    obtain⟨f0,f1,ff,f3,f4,f5⟩:=f2 b hb
    exact⟨f3,f1,f4,f5⟩
   have hG0:H' G.objs.size=none:=I4.free
   refine⟨s2.heap.objs.size,_,m1,rfl,IX,hn1,⟨by rw [ae (Ne.symm hDC)]; exact hG0,fun z=>?_,fun z=>?_,.inr ?_,fun x c e z=>?_,fun p hp z=>?_⟩,q _ nD⟩
   ·have q1:@LT.lt Nat _ X.env.locals s2.heap.objs.size:=I2.lt
    have q2:@Eq Nat G.objs.size X.env.locals:=z
    omega
   ·have z':G.objs.size∈frs X.outer:=z
    obtain⟨_,o,ho,_⟩:=I2.funs.mem z'
    have q1:@LT.lt Nat _ G.objs.size s2.heap.objs.size:=YF ho
    omega
   ·have q1:=I2.sz
    show @LE.le Nat _ X.s₀.heap.objs.size G.objs.size
    omega
   ·have q1:=celll x c e
    have q2:@Eq Nat c G.objs.size:=z
    omega
   ·have q1:@LT.lt Nat _ p.1 s2.heap.objs.size:=YF (I2.pin p hp).1
    have q2:@Eq Nat p.1 G.objs.size:=z
    omega
  ·refine thn (T.item X' rfl rfl rfl hc i _ s' σ' H' _ I' (stat fr' (by simp)) st' go) fun r s4 ⟨u,hr,h4⟩=>?_
   subst hr
   show wpAny _ _ (letOwnedTupleGo tg (.ref it) u) _ _ s4
   refine thn h4 fun _ s5 ⟨x,H5,I5,r5,y5,st5,fr5⟩=>?_
   have I5':=I5.pinned (stat fr5 (by simp)) (T.obj _ _ st5)
   have w1:=hg cl G.objs.size fp s2 H2 _ s5 σ' H5 x u _ (I5'.wish _) r5 (step x H5 y5)
   refine YH w1 (fun _ s6 ⟨σ6,H6,I6,q6⟩=>?_) fun v s hv=>YH (XE.note (X:=ak X N' scope cl G.objs.size fp s2 H2) (E:=E0) hv) (fun _ _ z=>z) fun _ _ z=>z
   have w15:=hcn cl G.objs.size fp s2 H2 _ s6 σ6 H6 _ I6 q6
   refine YH w15 (fun bb s65 ⟨H65,I65,q65⟩=>?_) fun v s hv=>YH (XE.note (X:=ak X N' scope cl G.objs.size fp s2 H2) (E:=E0) hv) (fun _ _ z=>z) fun _ _ z=>z
   cases bb with
   | false=>
    rw [if_neg YN] at q65 ⊢
    obtain⟨m',hm',w65⟩:=q65
    have I66:=I65.unwish
    have pinD:=I66.pin (s2.heap.objs.size,{cls:=.type "list",data:=.seq us.toArray k}) (YI _ (XC _ (by simp)))
    refine⟨m',hm',i+1,ys,us,k,σ6,H65,I66.pins_of (fun p hp=>by rw [YK.mp hp]; exact pinD),rv,T.keep _ _ _ st5 fun b hb o e=>?_,fun b hb=>?_,hlen,w65⟩
    ·exact(I66.pin (b,o) (YI _ (YI _ (ba hb e)))).1
    ·obtain⟨o,e,d⟩:=T.obj _ _ st5 b hb
     exact(I66.pin (b,o) (YI _ (YI _ (ba hb e)))).2.1
   | true=>
   rw [if_pos rfl] at q65 ⊢
   obtain⟨NN,q6,hNN⟩:=q65
   have I6:=I65
   have H6:=H65
   have w2:=he cl G.objs.size fp s2 H2 _ s65 σ6 H65 _ I6 q6
   refine YH w2 (fun y s7 ⟨v,H7,I7w,r7,q7⟩=>?_) fun v s hv=>YH (XE.note (X:=ak X N' scope cl G.objs.size fp s2 H2) (E:=E0) hv) (fun _ _ z=>z) fun _ _ z=>z
   have I7:=I7w.unwish
   obtain⟨m',hm',w7⟩:=hNN v H7 q7
   have pinD:=I7.pin (s2.heap.objs.size,{cls:=.type "list",data:=.seq us.toArray k}) (YI _ (XC _ (by simp)))
   obtain⟨pD,nD,lD,fD,_⟩:=pinD
   refine append_at (hsz:=by rw [YL,← rv.length]; exact hlen) pD fun h8 hs8 hD8=>?_
   have nD:H7 s2.heap.objs.size=none:=nD
   have I8:Inv X' (b8 fp s5.heap) σ6 H7 {s7 with heap:=h8}:=by
    refine(I7.pins_of (pins':=b8 fp s5.heap) fun p hp=>I7.pin p (YI _ (YI _ hp))).turned (t':=s7.toks) (it:=s2.heap.objs.size) (fun b o hb e=>(hs8.2 b hb).trans e) nD lD (.inr (YD _)) (fun x c e z=>?_) fun p hp z=>?_
    ·have q1:=celll x c (c1 x c e)
     have q2:@Eq Nat c s2.heap.objs.size:=z
     omega
    ·have hp':p∈b8 fp s5.heap:=by simpa [X',ak] using hp
     have q1:=fl p.1 (dY hp').1
     have q2:@Eq Nat p.1 s2.heap.objs.size:=z
     omega
   have I9:Inv X' [(s2.heap.objs.size,{cls:=.type "list",data:=.seq (us++[y]).toArray (k+1)})] σ6 H7 {s7 with heap:=h8}:=I8.pins_of fun p hp=>by
    have e:p=(s2.heap.objs.size,{cls:=.type "list",data:=.seq (us++[y]).toArray (k+1)}):=by simpa using hp
    subst e
    refine⟨by rw [hD8,List.push_toArray],nD,lD,fD,fun v z=>by cases z⟩
   refine⟨m',hm',i+1,ys++[v],us++[y],k+1,σ6,H7,I9,rv.append (.cons r7 .nil),T.keep _ _ _ st5 fun b hb o e=>?_,fun b hb=>?_,by rw [YY,XH]; omega,w7⟩
   ·exact(I8.pin (b,o) (YI _ (ba hb e))).1
   ·obtain⟨o,e,d⟩:=T.obj _ _ st5 b hb
    exact(I8.pin (b,o) (YI _ (ba hb e))).2.1
 exact codeAny_compStart_list (loop _ rfl) (T.self _ 0 _ _ _ hst1 (loop _ rfl))
theorem lN{E0:XK}{wi:TI}{g:ay TG}{tc:ay TT}{te:ay TE}{i:Nat}{x:Str}{pos' spos:Pos}(hN:X.N.Nodup)(hi0:X.N[i]? = some x)(hx:Loc X.env.scope x)
  (hsw:swapsWith (.ListComp elt [⟨tg,iter,[cnd],0⟩] scope pos) (some (.Name x pos')) spos.line X.env=pure true)
  (fr:cj X) (hc:X.calm=true) (S:aK n N' X scope) (hi:PI (X.exc E0) tg iter wi)
  (hg:∀ cl C ex s H,PG ((ak X N' scope cl C ex s H).exc E0) tg (g cl C ex s H)) (hcn:∀ cl C ex s H,PT ((ak X N' scope cl C ex s H).exc E0) cnd (tc cl C ex s H)) (he:∀ cl C ex s H,PE ((ak X N' scope cl C ex s H).exc E0) elt (te cl C ex s H))
  (hs:∀ x,foldedSetIterable iter X.env x=pure x:=by intro _; rfl) (hf:X.fn x=true∨X.env.scope.names.lookup x=some .local:=by first | exact .inl rfl | exact .inr rfl | assumption) :
  PS (X.exc E0) (.Assign [.Name x pos'] (.ListComp elt [⟨tg,iter,[cnd],0⟩] scope pos) spos) (rQ (rM n wi g tc te) (du i)):=by
 intro pins s σ H D I h
 rw [exec_Assign_Name_used _ _ _ _ hsw]
 refine Yz (wpAny_standAt (Yz ?_))
 obtain⟨cl,hcl,c1,c2⟩:=dw (scope:=scope) (env:=X.env) fun x hx hf=>I.ok.has x.1 (S.free x hx hf)
 show wpAny _ _ (do let _ ← comprehension (.ListComp elt [⟨tg,iter,[cnd],0⟩] scope pos) scope X.env _ (newList []) false (eval iter X.env) (some (assign (.Name x pos') X.env))) _ _ s
 refine Yz (YH (wpAny_comprehension_free (use:=some (assign (.Name x pos') X.env)) (Q:=fun _ s'=>SP (X.exc E0) pins D .next s') rfl hs hcl S.kind S.names
  (thn (hi pins s σ H _ I h) fun v s1 h1=>thn h1 fun itv s2 h2=>?_)) (fun _ s' hq=>YB (YB hq)) fun _ _ e=>e)
 obtain⟨it,fp,tn,J,H2,e,I2w,T,st2,f2,cok⟩:=h2
 subst e
 have I2:=I2w.unwish
 refine YH (mM (X:=X) (E0:=E0) (pos:=pos) (iter:=iter) (E:=(X.exc E0).xe) (Q:=fun x H1=>du i x σ H1 D.nx) hc S c1 c2 I2 T st2 f2 hg hcn he cok) (fun acc s3 h3=>YH h3 (fun cenv s4 h4=>codeAny_mono h4 fun r s' hr=>?_) fun _ _ z=>z) fun _ _ z=>z
 cases r with
 | error e=>exact gh I2 f2 fr hr
 | ok f=>
  obtain⟨Dl,H',m,rfl,I',hn,⟨f0,f1,ff,f3,f4,f5⟩,q⟩:=hr
  show wpAny _ _ (assign (.Name x pos') X.env (.ref Dl)) _ _ s'
  refine wpAny_assign_Name (gU I' hN hi0 hx (v:=.ref Dl) (u:=.ref Dl) rfl (fun s'' I'' hb=>?_) hf)
  obtain⟨a,sb,ha⟩:=hb
  have hCa:cenv.locals≠a:=by
   rcases ha with rfl | ha
   ·exact f1
   ·exact fun z=>f4 x a ha z.symm
  refine⟨m,hn.sameBut sb hCa,fun h' hs'=>⟨_,H',Inv.wish ?_ _,q⟩⟩
  exact I''.turned (t':=s''.toks) (fun b o hb e=>(hs'.2 b hb).trans e) f0 f1 f3 f4 f5
end
section
variable{X:Cx}{pins:List (Addr×Obj)}{σ:St}{H:Hp}{s:Shared}
theorem Inv.trackO{a:Addr}{o:HO}(I:Inv X pins σ H s)(l:eG X pins H a)(ok:aM X.prog X.w (upd H a o) s.heap a o):Inv X pins σ (upd H a o) s:=by
 have nb:∀ b u,H b=some u→b≠a:=fun b u q=>af q l.un
 refine⟨I.ok,I.os,I.bare,⟨I.base.keep,I.base.slot,fun b o q n hx=>?_,I.base.there,fun b xs q=>?_,fun b o xs q=>?_,fun b ps q=>?_⟩,I.loc,I.cell,?_,fun x c hc=>?_,fun p hp=>?_,fun b u q=>?_,I.len⟩
 ·have : b≠a:=by
   rintro rfl
   rcases l.new with z | z
   ·exact hx z
   ·rw [z] at q; cases q
  rw [ae this]; exact I.base.free b _ q n hx
 ·have:=I.base.tups b xs q
  rw [ae (nb b _ this)]; exact this
 ·have:=I.base.frzs b o xs q
  rw [ae (nb b _ this)]; exact this
 ·obtain⟨m,z⟩:=I.base.tbls b ps q
  exact⟨m,by rw [ae (nb b _ z)]; exact z⟩
 ·rw [ae (Ne.symm l.loc)]; exact I.free
 ·rw [ae (l.cel x c hc)]; exact I.freeC x c hc
 ·obtain⟨e1,n,ne,nf,d⟩:=I.pin p hp
  exact⟨e1,by rw [ae (l.pin p hp)]; exact n,ne,nf,d⟩
 ·by_cases hb:b=a
  ·subst hb
   rw [aa] at q; cases q
   exact ok
  ·rw [ae hb] at q
   exact(I.hok b u q).stay (fun _ _ _ z=>z) (fun c z=>by rw [ae (nb c _ z)]; exact z) fun c xs z=>by rw [ae (nb c _ z)]; exact z
theorem d3.loose{b:Addr}(f:d3 X pins H b):eG X pins H b:=by
 obtain⟨f0,f1,f2,f3,f4,f5⟩:=f
 exact⟨f0,f3.imp id X8,f1,f4,f5⟩
end
section
variable{X:Cx}{elts:List Expr}{k:Nat}{tpos:Pos}
end
end L2
set_option maxHeartbeats 1000000
namespace L2
open PySem PySem.Spec PyProof.Rows
mutual
inductive RdD(R:Addr→Prop)(H:Hp):V→PyData→Prop where
 | non:RdD R H .non .none
 | bl (b:Bool):RdD R H (.bl b) (.bool b)
 | int (i:Int):RdD R H (.int i) (.int i)
 | str (x:Str):RdD R H (.str x) (.str x)
 | lst {a:Addr} {xs:List V} {ds:List PyData}:R a→H a=some (.lst xs)→RdB R H xs ds→RdD R H (.ref a) (.list ds)
 | tup {a:Addr} {xs:List V} {ds:List PyData}:R a→H a=some (.tup xs)→RdB R H xs ds→RdD R H (.ref a) (.tuple ds)
 | d0 {a:Addr}:R a→H a=some (.dK [])→RdD R H (.ref a) (.dict [])
 | d1 {a:Addr} {k:Str} {i:Int}:R a→H a=some (.dK [(.inr k,.int i)])→RdD R H (.ref a) (.dict [(.str k,.int i)])
inductive RdB(R:Addr→Prop)(H:Hp):List V→List PyData→Prop where
 | nil:RdB R H [] []
 | cons {x:V} {xs:List V} {d:PyData} {ds:List PyData}:RdD R H x d→RdB R H xs ds→RdB R H (x::xs) (d::ds)
end
mutual
theorem RdD.mono{R R':Addr→Prop}{H H':Hp}(hR:∀ a,R a→R' a)(hH:∀ a o,R a→H a=some o→H' a=some o):∀ {x:V} {d:PyData},RdD R H x d→RdD R' H' x d
 | _,_,.non=>.non
 | _,_,.bl b=>.bl b
 | _,_,.int i=>.int i
 | _,_,.str x=>.str x
 | _,_,.lst r e z=>.lst (hR _ r) (hH _ _ r e) (RdB.mono hR hH z)
 | _,_,.tup r e z=>.tup (hR _ r) (hH _ _ r e) (RdB.mono hR hH z)
 | _,_,.d0 r e=>.d0 (hR _ r) (hH _ _ r e)
 | _,_,.d1 r e=>.d1 (hR _ r) (hH _ _ r e)
theorem RdB.mono{R R':Addr→Prop}{H H':Hp}(hR:∀ a,R a→R' a)(hH:∀ a o,R a→H a=some o→H' a=some o):∀ {xs:List V} {ds:List PyData},RdB R H xs ds→RdB R' H' xs ds
 | _,_,.nil=>.nil
 | _,_,.cons a b=>.cons (RdD.mono hR hH a) (RdB.mono hR hH b)
end
theorem lc{P:Program}{w:World}{H:Hp}{h:Heap}{a:Addr}{kvs:List (Key×V)}(ok:HOk P w H h)(e:H a=some (.dK kvs)):∃ o es ep vs,h.get? a=some o∧o.cls=.type "dict"∧o.data=.dict es ep∧KV kvs vs∧Pairs (aE P w) es.toList vs:=by
 obtain⟨_,_,vs,kv,o,es,ep,h1,h2,h3,h4,h5,h6⟩:=uM ok e
 exact⟨o,es,ep,vs,h1,h2.1,h3,kv,h5⟩
mutual
theorem RdD.reads{R:Addr→Prop}{P:Program}{w:World}{H:Hp}{h:Heap}(ok:HOk P w H h):∀ {x:V} {d:PyData},RdD R H x d→∀ {u:Value},ar x u→∃ as,Reads h u d as∧∀ a∈as,H a≠none
 | _,_,.non,u,r=>by cases r; exact⟨_,.none,fun _ z=>nomatch z⟩
 | _,_,.bl b,u,r=>by cases r; exact⟨_,.bool b,fun _ z=>nomatch z⟩
 | _,_,.int i,u,r=>by obtain⟨t,rfl⟩:=r; exact⟨_,.int i t,fun _ z=>nomatch z⟩
 | _,_,.str x,u,r=>by obtain⟨t,rfl⟩:=r; exact⟨_,.str x t,fun _ z=>nomatch z⟩
 | _,_,.lst (a:=a) _ e z,u,r=>by
  cases r
  obtain⟨_,its,n,rv,e1⟩:=ok a _ e
  obtain⟨as,q,ha⟩:=RdB.reads ok z rv
  refine⟨_,.list e1 rfl rfl (by simpa using q),fun b hb=>?_⟩
  rcases YM.mp hb with rfl | hb
  ·rw [e]; exact fun z=>nomatch z
  ·exact ha b hb
 | _,_,.tup (a:=a) _ e z,u,r=>by
  cases r
  obtain⟨_,its,rv,o,e1,e2,n,e3⟩:=ok a _ e
  obtain⟨as,q,ha⟩:=RdB.reads ok z rv
  exact⟨_,.tuple e1 e2 e3 (by simpa using q),ha⟩
 | _,_,.d0 (a:=a) _ e,u,r=>by
  cases r
  obtain⟨o,es,ep,vs,h1,h2,h3,kv,pr⟩:=lc ok e
  cases kv
  have he:es.toList=[]:=by cases hq:es.toList with | nil=>rfl | cons _ _=>rw [hq] at pr; cases pr
  refine⟨_,.dict (as:=[]) (bs:=[]) h1 h2 h3 (by rw [he]; exact .nil) (by rw [he]; exact .nil),fun b hb=>?_⟩
  obtain rfl:b=a:=by simpa using hb
  rw [e]; exact fun z=>nomatch z
 | _,_,.d1 (a:=a) (k:=k) (i:=i) _ e,u,r=>by
  cases r
  obtain⟨o,es,ep,vs,h1,h2,h3,kv,pr⟩:=lc ok e
  cases kv with | cons hk tl=>
  cases tl
  rename_i q
  obtain⟨k1,k2⟩:=hk
  obtain⟨t2,k2⟩:=k2
  cases hq:es.toList with
  | nil=>rw [hq] at pr; cases pr
  | cons ent rest=>
   rw [hq] at pr
   cases pr with | cons p1 p2 p3=>
   cases p3
   have p1:iu q.1 ent.key=true:=p1
   rw [← k1] at p1
   rcases aY p1 with ⟨_,_,z,_⟩ | ⟨x',t',z,e'⟩
   ·cases z
   ·cases z
    refine⟨_,.dict (as:=[]++[]) (bs:=[]++[]) h1 h2 h3 (by rw [hq]; exact .cons (by show Reads h ent.key _ _; rw [e']; exact .str _ _) .nil) (by rw [hq]; exact .cons (by show Reads h ent.val _ _; rw [p2,k2]; exact .int _ _) .nil),fun b hb=>?_⟩
    obtain rfl:b=a:=by simpa using hb
    rw [e]; exact fun z=>nomatch z
theorem RdB.reads{R:Addr→Prop}{P:Program}{w:World}{H:Hp}{h:Heap}(ok:HOk P w H h):∀ {xs:List V} {ds:List PyData},RdB R H xs ds→∀ {us:List Value},ax xs us→∃ as,ReadsAll h us ds as∧∀ a∈as,H a≠none
 | _,_,.nil,_,.nil=>⟨_,.nil,fun _ z=>nomatch z⟩
 | _,_,.cons a b,_,.cons r t=>by
  obtain⟨as,q1,h1⟩:=RdD.reads ok a r
  obtain⟨bs,q2,h2⟩:=RdB.reads ok b t
  exact⟨_,.cons q1 q2,fun a ha=>(Y3.mp ha).elim (h1 a) (h2 a)⟩
end
section
variable{X:Cx}
theorem Inv.noSys{pins:List (Addr×Obj)}{σ:St}{H:Hp}{s:Shared}(I:Inv X pins σ H s):H sysModules=none:=by
 obtain⟨mm,o,es,ep,e,_⟩:=I.mod.sys
 exact(I.bs _ o e).2
inductive rCall_reprXI(xs:List V)(H:Hp)(Q:VK):Prop | mk (R:Addr→Prop) (p:Addr) (d:PyData) (_:xs=[.ref p]) (_:RdD R H (.ref p) d) (_:d.showable=true) (_:d.depth≤60) (_:d.shown.length≤sizeLine) (_:Q (.str d.shown) H)
theorem oE{k:Nat}(hr:aO k X.A):bZ X (.builtin "repr") rCall_reprXI:=by
 intro pins s σ H xs us Q I r h
 obtain⟨R,p,d,rfl,hd,h1,h3,h4,q⟩:=h
 obtain⟨u,rfl,rx⟩:=dj r
 cases rx
 obtain⟨as,rd,ha⟩:=hd.reads I.hok (u:=.ref p) rfl
 have hu:=hr.units
 exact repr_of_reads' (h₀:=s.heap) rd h1 (fun _ z=>ha _ z I.noSys) hr.gd (by omega) (fun _ _ e=>e) (fun h' u tk kk=>⟨.str d.shown,H,I.kept kk,⟨u,rfl⟩,q⟩) h4
end
end L2
namespace HT
open PySem PySem.Spec PyProof.Rows L2
section
variable{prog:Program}{w:World}{A:Around}{E:Value→Shared→Prop}{s:Shared}
theorem getItem_tuple_all{t sl:Addr}{items:Array Value}{vl vu:Value}{lo hi:Option Int}{Q:Value→Shared→Prop}(ht:IsTup s.heap t items)(hs:s.heap.IsSliceOf sl vl vu .none)(pl:IsPart vl lo)(pu:IsPart vu hi)
  (hw:sIx items.size 0 lo=0∧sIx items.size items.size hi=items.size) (h:Q (.ref t) s):wpAny (model prog w) A (getItem (.ref t) (.ref sl)) Q E s:=by
 obtain⟨os,hos,hcs,hds⟩:=id hs
 have hTs:s.TypeIs (.ref sl) "slice":=⟨os,hos,hcs⟩
 unfold getItem
 try with_reducible refine wpAny_holding ?_
 first | refine Yz (YB ?_) | skip
 refine Yz (wpAny_sequenceKey ht.typeIs (by decide) ?_)
 refine Yz (wpAny_callSpecial?_slot (name:=Str.ofString "__getitem__") ht.typeIs PyProof.Rows.slot_tuple_getitem
  (wpAny_call_entry PyProof.Rows.slot_tuple_getitem ht.typeIs entry_tuple_getitem ?_ (args_tuple_getitem _ _)))
 show wpAny _ _ (Builtin.Tuple.tupleItemsOf (.ref t)>>=_) _ _ s
 refine Yz (tupleItemsOf_ ht ?_)
 refine Yz (wpAny_typeOf hTs ?_)
 rw [if_pos (by decide)]
 refine Yz (dU hs pl pu ?_)
 have hyes:((((sIx items.size 0 lo:Nat):Int)==0&&(1:Int)==1&&(sIx items.size items.size hi-sIx items.size 0 lo)==items.size)=true):=by
  rw [hw.1,hw.2]; simp
 show wpAny _ _ (if (((sIx items.size 0 lo:Nat):Int)==0&&(1:Int)==1&&(sIx items.size items.size hi-sIx items.size 0 lo)==items.size)=true then _ else _) _ _ s
 rw [if_pos hyes]
 refine Yz ?_
 unfold Builtin.Tuple.tupleIsExact
 refine Yz (wpAny_typeOf ht.typeIs (YB ?_))
 rw [if_pos (by decide)]
 refine Yz (wpAny_rule ?_)
 exact YB ⟨_,rfl,YB h⟩
end
end HT
namespace L2
open PySem PySem.Spec PyProof.Rows
section
variable{X:Cx}
inductive rOp_eqL0I(K:WB)(x y:V)(H:Hp)(Q:VK):Prop | mk (a b:Addr) (xs:List V) (_:x=.ref a) (_:y=.ref b) (_:SqL K H a xs) (_:SqL K H b []) (_:Q (.bl xs.isEmpty) H)
theorem pC(hu:X.A.units<cLine):OpR X (compareOp .Eq) (rOp_eqL0I X.K):=by
 intro pins s σ H x y v u Q I rx ry h
 obtain⟨a,b,xs,rfl,rfl,ha,hb,q⟩:=h
 cases rx
 cases ry
 obtain⟨its,r1,p1,_⟩:=I.list ha
 obtain⟨jts,r2,p2,_⟩:=I.list hb
 cases r2
 cases r1 with
 | nil=>exact PySem.SeqAt.eq_listAt (e:=fun _=>true) p1.isList p2.isList rfl hu (fun j h1 _=>absurd h1 (by simp)) ⟨.bl true,H,I.tok _,rfl,q⟩
 | cons r t=>exact PySem.SeqAt.eq_list_lengthsAt p1.isList p2.isList (by simp) hu ⟨.bl false,H,I.tok _,rfl,q⟩
inductive rSlA(K:WB)(x:V)(lo hi:Option Int)(H:Hp)(Q:VK):Prop | mk (a xs) (_:x=.ref a) (_:SqT K H a xs) (_:(HT.sIx xs.length 0 lo=0∧HT.sIx xs.length xs.length hi=xs.length)) (_:Q (.ref a) H)
theorem xv:SlR X (rSlA X.K):=by
 intro pins s σ H x v vl vu lo hi sl Q I rx hs pl pu h
 obtain⟨a,xs,rfl,hx,hw,q⟩:=h
 cases rx
 obtain⟨its,r,ht,hz⟩:=I.tuple hx
 have hlen:its.toArray.size=xs.length:=by rw [YL]; exact r.length.symm
 exact⟨"tuple",_,PyProof.Rows.slot_tuple_getitem.lookup,ht.typeIs,HT.getItem_tuple_all ht hs pl pu (by rw [hlen]; exact hw) ⟨.ref a,H,I.tok _,rfl,q⟩⟩
def xz(K:WB):V→Option Int→Option Int→Hp→VK→Prop:=fun x lo hi H Q=>rSlL K x lo hi H Q∨(rSlT K x lo hi H Q∨rSlA K x lo hi H Q)
theorem xu:SlR X (xz X.K):=sl_list.or (sl_tup.or xv)
end
abbrev CK:=Str×List Int
section
variable{P:Program}{w:World}
variable{A:Around}{E:Value→Shared→Prop}{s:Shared}
end
def Raw(h:Heap)(d:Addr)(es:Array DictEntry)(ep:Nat):Prop:=∃ o,h.get? d=some o∧o.ExactDict∧o.data=.dict es ep
theorem Raw.typeIs{s:Shared}{d:Addr}{es:Array DictEntry}{ep:Nat}(m:Raw s.heap d es ep):s.TypeIs (.ref d) "dict":=let ⟨o,ho,hc,_⟩:=m; ⟨o,ho,hc.1⟩
section
variable{P:Program}{w:World}{A:Around}{E:Value→Shared→Prop}{s:Shared}{d it:Addr}{es:Array DictEntry}{ep i:Nat}
theorem sr{Q:Value→Shared→Prop}(hd:(d==sysModules)=false)(hm:Raw s.heap d es ep)
  (hQ:Q (.ref s.heap.objs.size) {s with heap:=s.heap.push {cls:=.type "dict_keyiterator",data:=.fields #[.ref d,.int 0 0,.int es.size 0,.int ep 0]}}):wpAny (model P w) A (pyIter (.ref d)) Q E s:=by
 have hT:=hm.typeIs
 obtain⟨o,ho,hc,hdat⟩:=hm
 refine wpAny_pyIter_slot hT F.slot_dict_iter (wpAny_call_entry F.slot_dict_iter hT F.entry_dict_iter ?_ (F.args_dict_iter_1 _))
 unfold Builtin.«dict.__iter__»
 refine Yz ?_
 unfold Builtin.Dict.dictSlotNone
 refine Yz (wpAny_notOrdered_dict hT ?_)
 show wpAny _ _ (pure (Value.ref d)) _ _ s
 refine YB ?_
 show wpAny _ _ (Builtin.Dict.showsAll d>>=_) _ _ s
 unfold Builtin.Dict.showsAll
 rw [if_neg (by rw [hd]; exact YN)]
 refine Yz (YB (Yz (wpAny_dictEntries ho hdat (Yz (wpAny_dictEpoch ho hdat ?_)))))
 refine Yz (wpAny_newObj_type (YB ⟨_,rfl,"dict_keyiterator",_,⟨_,YJ _ rfl,rfl⟩,F.slot_dict_keyiterator_next.lookup,?_⟩))
 simpa [rawInt] using hQ
theorem ss{Q:Option Value→Shared→Prop}(hit:s.heap.IsKeyIter it d i es.size ep)(hm:Raw s.heap d es ep)(hlt:i<es.size)
  (hQ:∀ h',h'.IsKeyIter it d (i+1) es.size ep→XI it s.heap h'→Q (some es[i].key) {s with heap:=h'}):wpAny (model P w) A (pyNext (.ref it)) Q E s:=by
 obtain⟨o,ho,hc,hd⟩:=id hit
 obtain⟨od,hod,hcd,hdd⟩:=id hm
 unfold pyNext
 refine Yz (wpAny_attempt (wpAny_callSpecial?_slot (name:=Str.ofString "__next__") hit.typeIs F.slot_dict_keyiterator_next (wpAny_call_entry F.slot_dict_keyiterator_next hit.typeIs F.entry_dict_keyiterator_next ?_ (F.args_dict_keyiterator_next_1 _))))
 refine Yz (YB (Yz (Yz ?_)))
 first | refine Yz (wpAny_typeNameOfWhole_keyiter hit.typeIs (YB ?_)) | refine Yz (wpAny_typeNameOf_keyiter hit.typeIs (YB ?_))
 refine Yz (wpAny_fieldsOf ho hd ?_)
 have hown:Builtin.Dict_items.ownsTuple "dict_keyiterator"=false:=by decide
 simp only [hown,XF,if_false]
 show wpAny _ _ (if (Value.ref d==Value.none)=true then _ else _) _ _ s
 rw [if_neg (show ¬ ((Value.ref d==Value.none)=true) from YN)]
 refine Yz (YB (Yz (wpAny_dictEntries hod hdd ?_)))
 rw [if_neg (by simp)]
 refine Yz (YB (Yz (wpAny_dictEpoch hod hdd ?_)))
 rw [if_neg (by simp)]
 refine YB ?_
 simp only [show ¬ ((i:Int)<0) from by omega,if_false,Int.toNat_natCast,Array.getElem?_eq_getElem hlt]
 refine Yz ?_
 first | refine Yz (wpAny_typeNameOfWhole_keyiter hit.typeIs (YB ?_)) | refine Yz (wpAny_typeNameOf_keyiter hit.typeIs (YB ?_))
 refine Yz (wpAny_isOneOf_keyiter hit.typeIs ?_)
 show wpAny _ _ (setField (.ref it) 1 (rawInt ((i:Int)+1))>>=_) _ _ s
 refine Yz (wpAny_setField ho hd (by simp) ?_)
 have hit':(s.heap.update it (Obj.mapFields (·.setIfInBounds 1 (rawInt ((i:Int)+1))))).IsKeyIter it d (i+1) es.size ep:=
  ⟨_,X1 _ ho (Obj.isFreed_of_fields (Obj.data_mapFields hd _)),(Obj.cls_mapFields ..).trans hc,by rw [Obj.data_mapFields hd]; simp [rawInt]⟩
 refine Yz (wpAny_holding ?_)
 refine Yz (wpAny_isOneOf_keyiter (s:={s with heap:=s.heap.update it (Obj.mapFields (·.setIfInBounds 1 (rawInt ((i:Int)+1))))}) hit'.typeIs ?_)
 show wpAny _ _ (pure es[i].key) _ _ _
 exact YB (YB ⟨_,rfl,YB (hQ _ hit' (XI.update ..))⟩)
theorem vk{Q:Option Value→Shared→Prop}(hh:A.handled=none)(hit:s.heap.IsKeyIter it d es.size es.size ep)(hm:Raw s.heap d es ep)
  (hQ:∀ h',Heap.ExtBut it s.heap h'→Q none {s with heap:=h'}):wpAny (model P w) A (pyNext (.ref it)) Q E s:=by
 obtain⟨o,ho,hc,hd⟩:=id hit
 obtain⟨od,hod,hcd,hdd⟩:=id hm
 unfold pyNext
 refine Yz (wpAny_attempt (wpAny_callSpecial?_slot (name:=Str.ofString "__next__") hit.typeIs F.slot_dict_keyiterator_next (wpAny_call_entry F.slot_dict_keyiterator_next hit.typeIs F.entry_dict_keyiterator_next ?_ (F.args_dict_keyiterator_next_1 _))))
 refine Yz (YB (Yz (Yz ?_)))
 first | refine Yz (wpAny_typeNameOfWhole_keyiter hit.typeIs (YB ?_)) | refine Yz (wpAny_typeNameOf_keyiter hit.typeIs (YB ?_))
 refine Yz (wpAny_fieldsOf ho hd ?_)
 have hown:Builtin.Dict_items.ownsTuple "dict_keyiterator"=false:=by decide
 simp only [hown,XF,if_false]
 show wpAny _ _ (if (Value.ref d==Value.none)=true then _ else _) _ _ s
 rw [if_neg (show ¬ ((Value.ref d==Value.none)=true) from YN)]
 refine Yz (YB (Yz (wpAny_dictEntries hod hdd ?_)))
 rw [if_neg (by simp)]
 refine Yz (YB (Yz (wpAny_dictEpoch hod hdd ?_)))
 rw [if_neg (by simp)]
 refine YB ?_
 simp only [show ¬ ((es.size:Int)<0) from by omega,if_false,Int.toNat_natCast,Array.getElem?_eq_none (YD es.size)]
 refine Yz ?_
 first | refine Yz (wpAny_typeNameOfWhole_keyiter hit.typeIs (YB ?_)) | refine Yz (wpAny_typeNameOf_keyiter hit.typeIs (YB ?_))
 show wpAny _ _ (setField (.ref it) 0 .none>>=_) _ _ s
 refine Yz (wpAny_setField ho hd (by simp) ?_)
 show wpAny _ _ (newExc (.type "StopIteration") []>>=_) _ _ _
 refine Yz ?_
 simp only [newExc,newTuple]
 refine Yz (wpAny_newObj_type ?_ (by size_fits))
 refine Yz (m:=firstArgMember _ _) (wpAny_of_eq (a:=Value.none) (by first | rfl | (simp only [firstArgMember]; rfl)) ?_)
 refine wpAny_newObj_type ?_ (by size_fits)
 simp only [raiseNew]
 refine Yz (wpAny_handled ?_)
 rw [show A.in1.handled=none from hh]
 refine Yz (YB (wpAny_throw ?_))
 refine Yz (wpAny_isInstance (T:="StopIteration") (b:=true) ⟨_,YJ _ rfl,rfl⟩ isSubtype_stop ?_)
 exact YB (hQ _ (((XI.update ..).extBut.push _).push _))
end
abbrev CD:=List (CK×Addr×V)
section
variable{P:Program}{w:World}{H:Hp}{h:Heap}{a:Addr}
end
section
variable{X:Cx}{pins:List (Addr×Obj)}{σ:St}{H:Hp}{s:Shared}{a q:Addr}{cd:CD}{k:CK}{v:V}{r:Value}{A:Around}{E:Value→Shared→Prop}
end
section
variable{X:Cx}{o i e value:Expr}{pos pos' tpos:Pos}{td ty tv:TE}
end
structure re(P:Program)(w:World)(i l:Addr)(xs:Array Value)(It:Nat→Heap→Prop):Prop where
 item:∀ (A:Around) (s:Shared) (k:Nat) (x:Value) (Q:Value→Shared→Prop) (E:Value→Shared→Prop),It k s.heap→xs[k]? = some x→
  (∀ h',It (k+1) h'→XI i s.heap h'→Q x {s with heap:=h'})→wpAny (model P w) A (Builtin.SmallTypes.nextOf (.ref i)) Q E s
 fin:∀ (A:Around) (s:Shared) (k:Nat) (Q:Value→Shared→Prop) (E:Value→Shared→Prop),A.handled=none→It k s.heap→xs[k]? = none→
  (∀ h' e,Heap.ExtBut i s.heap h'→(∃ o,h'.get? e=some o∧o.cls=.type "StopIteration")→E (.ref e) {s with heap:=h'})→wpAny (model P w) A (Builtin.SmallTypes.nextOf (.ref i)) Q E s
 keep:∀ (h h':Heap) (k:Nat),It k h→(∀ b,b=i∨b=l→∀ o,h.get? b=some o→h'.get? b=some o)→It k h'
section
variable{P:Program}{w:World}
theorem qO(i l:Addr)(xs:Array Value)(hne:l≠i):re P w i l xs fun k h=>h.IsListIter i l k∧h.IsList l xs where
 item:=fun A s k x Q E st hx hQ=>wpAny_nextOf_list_item st.1 st.2 hx fun h' it' hs=>hQ h' ⟨it',st.2.extBut hs.extBut hne⟩ hs
 fin:=fun A s k Q E hh st hx hE=>wpAny_nextOf_list_end hh st.1 st.2 hx hE
 keep:=fun h h' k st hk=>⟨st.1.at fun o e=>hk i (.inl rfl) o e,st.2.at fun o e=>hk l (.inr rfl) o e⟩
section
variable{A:Around}{E:Value→Shared→Prop}{s:Shared}
theorem rE{it t:Addr}{k:Nat}{items:Array Value}{x:Value}{Q:Value→Shared→Prop}(hit:s.heap.IsTupleIter it t k)(ht:s.heap.IsTuple t items)(hx:items[k]? = some x)
  (hQ:∀ h',h'.IsTupleIter it t (k+1)→XI it s.heap h'→Q x {s with heap:=h'}):wpAny (model P w) A (Builtin.SmallTypes.nextOf (.ref it)) Q E s:=by
 obtain⟨o,ho,hc,hd⟩:=id hit
 obtain⟨ol,hol,_,nl,hdl⟩:=ht
 unfold Builtin.SmallTypes.nextOf
 refine Yz (wpAny_callSpecial?_slot (name:=Str.ofString "__next__") hit.typeIs F.slot_tuple_iterator_next (wpAny_call_entry F.slot_tuple_iterator_next hit.typeIs F.entry_tuple_iterator_next ?_ (F.args_tuple_iterator_next_1 _)))
 show wpAny _ _ (field (.ref it) 0>>=_) _ _ s
 refine Yz (wpAny_field ho hd (x:=.ref t) rfl ?_)
 show wpAny _ _ (if (Value.ref t==Value.none)=true then _ else _) _ _ s
 rw [if_neg (show ¬ ((Value.ref t==Value.none)=true) from YN)]
 show wpAny _ _ (field (.ref it) 1>>=_) _ _ s
 refine Yz (wpAny_field ho hd (x:=.int k 0) rfl ?_)
 show wpAny _ _ (seqItems? (.ref t)>>=_) _ _ s
 refine Yz (wpAny_seqItems hol hdl ?_)
 simp only [Int.toNat_natCast,hx]
 refine Yz (wpAny_setField ho hd (by simp) (YB ⟨x,rfl,YB (hQ _ ⟨_,X1 _ ho (Obj.isFreed_of_fields (Obj.data_mapFields hd _)),(Obj.cls_mapFields ..).trans hc,?_⟩ (XI.update ..))⟩))
 rw [Obj.data_mapFields hd]; simp [rawInt]
theorem u7{it t:Addr}{k:Nat}{items:Array Value}{Q:Value→Shared→Prop}(hh:A.handled=none)(hit:s.heap.IsTupleIter it t k)(ht:s.heap.IsTuple t items)(hx:items[k]? = none)
  (hE:∀ h' e,Heap.ExtBut it s.heap h'→(∃ o,h'.get? e=some o∧o.cls=.type "StopIteration")→E (.ref e) {s with heap:=h'}):wpAny (model P w) A (Builtin.SmallTypes.nextOf (.ref it)) Q E s:=by
 obtain⟨o,ho,hc,hd⟩:=id hit
 obtain⟨ol,hol,_,nl,hdl⟩:=ht
 unfold Builtin.SmallTypes.nextOf
 refine Yz (wpAny_callSpecial?_slot (name:=Str.ofString "__next__") hit.typeIs F.slot_tuple_iterator_next (wpAny_call_entry F.slot_tuple_iterator_next hit.typeIs F.entry_tuple_iterator_next ?_ (F.args_tuple_iterator_next_1 _)))
 show wpAny _ _ (field (.ref it) 0>>=_) _ _ s
 refine Yz (wpAny_field ho hd (x:=.ref t) rfl ?_)
 show wpAny _ _ (if (Value.ref t==Value.none)=true then _ else _) _ _ s
 rw [if_neg (show ¬ ((Value.ref t==Value.none)=true) from YN)]
 show wpAny _ _ (field (.ref it) 1>>=_) _ _ s
 refine Yz (wpAny_field ho hd (x:=.int k 0) rfl ?_)
 show wpAny _ _ (seqItems? (.ref t)>>=_) _ _ s
 refine Yz (wpAny_seqItems hol hdl ?_)
 simp only [Int.toNat_natCast,hx]
 refine Yz (wpAny_rule (Yz (wpAny_setField ho hd (by simp) ?_)))
 show wpAny _ _ (newExc (.type "StopIteration") []>>=_) _ _ _
 refine Yz ?_
 simp only [newExc,newTuple]
 refine Yz (wpAny_newObj_type ?_ (by size_fits))
 refine Yz (m:=firstArgMember _ _) (wpAny_of_eq (a:=Value.none) (by first | rfl | (simp only [firstArgMember]; rfl)) ?_)
 refine wpAny_newObj_type ?_ (by size_fits)
 simp only [raiseNew]
 refine Yz (wpAny_handled ?_)
 rw [show A.in1.handled=none from hh]
 refine Yz (YB (wpAny_throw ?_))
 exact hE _ _ (((XI.update ..).extBut.push _).push _) ⟨_,YJ _ rfl,rfl⟩
end
theorem uE(i l:Addr)(xs:Array Value)(hne:l≠i):re P w i l xs fun k h=>h.IsTupleIter i l k∧h.IsTuple l xs where
 item:=fun A s k x Q E st hx hQ=>rE st.1 st.2 hx fun h' it' hs=>hQ h' ⟨it',st.2.extBut hs.extBut hne⟩ hs
 fin:=fun A s k Q E hh st hx hE=>u7 hh st.1 st.2 hx hE
 keep:=fun h h' k st hk=>⟨let ⟨o,ho,r⟩:=st.1; ⟨o,hk i (.inl rfl) o ho,r⟩,let ⟨o,ho,r⟩:=st.2; ⟨o,hk l (.inr rfl) o ho,r⟩⟩
end
abbrev ZAt(h:Heap)(z TI TO:Addr)(f0:Value)(f1:Bool):Prop:=
 h.get? z=some {cls:=.type "zip",dict:=none,data:=.fields #[f0,.bool f1,.bool false,.ref TI,.ref TO],slots:=#[]}
structure ZSt(It1 It2:Nat→Heap→Prop)(z TI TO i1 i2:Addr)(k:Nat)(h:Heap):Prop where
 z:∃ f0 f1,ZAt h z TI TO f0 f1∧(f0=.none∨∃ (T:Addr) (o:Obj),f0=rawInt (T:Int)∧h.get? T=some o∧T≠z∧T≠TO∧T≠i1∧T≠i2)
 ti:IsPair h TI (.ref i1) (.ref i2)
 to:∃ a b,IsPair h TO a b
 a:It1 k h
 b:It2 k h
section
variable{P:Program}{w:World}{A:Around}{E:Value→Shared→Prop}{s:Shared}{It1 It2:Nat→Heap→Prop}{z TI TO i1 i2 l1 l2:Addr}{xs ys:Array Value}{k:Nat}{x y:Value}
theorem yO{Q:Option Value→Shared→Prop}(hh:A.handled=none)(D:ZipApart z TI TO i1 i2 l1 l2)(F1:re P w i1 l1 xs It1)(st:ZSt It1 It2 z TI TO i1 i2 k s.heap)(hx:xs[k]? = none)
  (hQ:∀ h',(∀ c o,c≠z→c≠TO→c≠i1→c≠i2→s.heap.get? c=some o→h'.get? c=some o)→Q none {s with heap:=h'}) :
  wpAny (model P w) A (pyNext (.ref z)) Q E s:=by
 obtain⟨⟨f0,f1,hz,hf⟩,hTI,⟨a,b,hTO⟩,h1,h2⟩:=st
 have hT:s.TypeIs (.ref z) "zip":=⟨_,hz,rfl⟩
 unfold pyNext
 refine Yz (wpAny_attempt (wpAny_callSpecial?_slot (name:=Str.ofString "__next__") hT F.slot_zip_next (wpAny_call_entry F.slot_zip_next hT F.entry_zip_next ?_ (F.args_zip_next_1 _))))
 refine YH (Q:=fun _ _=>False) (E:=fun e s'=>∃ h' a,e=.ref a∧s'={s with heap:=h'}∧(∀ c o,c≠z→c≠TO→c≠i1→c≠i2→s.heap.get? c=some o→h'.get? c=some o)∧∃ o,h'.get? a=some o∧o.cls=.type "StopIteration") ?_ (fun _ _ q=>q.elim) ?_
 ·show wpAny _ _ (field (.ref z) 2>>=_) _ _ _
  refine Yz (wpAny_field hz rfl (x:=.bool false) rfl ?_)
  show wpAny _ _ (field (.ref z) 3>>=_) _ _ _
  refine Yz (wpAny_field hz rfl (x:=.ref TI) rfl (Yz (wpAny_seqItems hTI rfl ?_)))
  show wpAny _ _ (Builtin.SmallTypes.ownedTupleIsFree (.ref z)>>=_) _ _ _
  refine Yz ?_
  rcases hf with rfl | ⟨T,oT,rfl,hT0,tz,tTO,t1,t2⟩
  ·unfold Builtin.SmallTypes.ownedTupleIsFree
   refine Yz (wpAny_field hz rfl (x:=.none) rfl (YB ?_))
   simp only [if_true]
   refine Yz (wpAny_rule ?_)
   refine Yz (wpAny_field hz rfl (x:=.ref TO) rfl ?_)
   refine Yz (wpAny_setField_rec hz (by simp) fun h₁ hz₁ hs₁=>?_)
   replace hz₁:ZAt h₁ z TI TO .ellipsis f1:=hz₁
   refine Yz ?_
   simp only [List.zipIdx_cons,List.zipIdx_nil,List.forIn_cons,List.forIn_nil]
   have kp1:∀ c o,c≠z→s.heap.get? c=some o→h₁.get? c=some o:=fun c o hc e=>hs₁.extBut c o hc e
   have a1:It1 k h₁:=F1.keep _ _ _ h1 fun b hb o e=>kp1 b o (by rcases hb with rfl | rfl; exact D.i1z; exact D.l1z) e
   refine Yz (Yz (wpAny_onRaise ?_))
   show wpAny _ _ (Builtin.SmallTypes.nextOf (.ref i1)>>=_) _ _ _
   refine Yz (F1.fin _ {s with heap:=h₁} k _ _ (by exact hh) a1 hx fun h₂ e hs₂ he=>?_)
   obtain⟨oe,hoe,hce⟩:=he
   have hz₂:ZAt h₂ z TI TO .ellipsis f1:=hs₂ _ _ D.i1z.symm hz₁
   have hez:e≠z:=fun q=>by subst q; rw [hz₂] at hoe; cases hoe; simp at hce
   refine wpAny_setField_rec hz₂ (by simp) fun h₃ _ hs₃=>⟨h₃,e,rfl,rfl,fun c o c1 _ c3 _ q=>hs₃.extBut _ _ c1 (hs₂ _ _ c3 (kp1 _ _ c1 q)),oe,hs₃.extBut _ _ hez hoe,hce⟩
  ·refine YH (Q:=fun b s₁=>b=false∧∃ h₁,s₁={s with heap:=h₁}∧ZAt h₁ z TI TO (rawInt (T:Int)) true∧XI z s.heap h₁) ?_ ?_ fun _ _ q=>q
   ·unfold Builtin.SmallTypes.ownedTupleIsFree
    refine Yz (wpAny_field hz rfl (x:=rawInt (T:Int)) rfl ?_)
    show wpAny _ _ (loadIfAlive ((T:Int).toNat)>>=_) _ _ _
    rw [Int.toNat_natCast]
    refine Yz (PySem.W.kdx_alive hT0 ?_)
    simp only [Option.isNone_some,XF,if_false]
    refine Yz (wpAny_field hz rfl (x:=.bool f1) rfl ?_)
    cases f1 with
    | true=>
     rw [if_neg (show ¬ ((Value.bool true != Value.bool true)=true) from YN)]
     exact YB ⟨rfl,_,rfl,hz,XI.refl _ _⟩
    | false=>
     rw [if_pos (show (Value.bool false != Value.bool true)=true from rfl)]
     refine Yz (wpAny_setField_rec hz (by simp) fun h₁ hz₁ hs₁=>?_)
     exact YB ⟨rfl,_,rfl,hz₁,hs₁⟩
   ·rintro b' s₁ ⟨rfl,h₁,rfl,hz₁,hs₁⟩
    simp only [XF,if_false]
    have kp1:∀ c o,c≠z→s.heap.get? c=some o→h₁.get? c=some o:=fun c o hc e=>hs₁.extBut c o hc e
    have a1:It1 k h₁:=F1.keep _ _ _ h1 fun b hb o e=>kp1 b o (by rcases hb with rfl | rfl; exact D.i1z; exact D.l1z) e
    refine Yz ?_
    rw [← Array.forIn_toList]
    simp only [List.forIn_cons,List.forIn_nil]
    refine Yz (Yz (wpAny_holding ?_))
    show wpAny _ _ (Builtin.SmallTypes.nextOf (.ref i1)>>=_) _ _ _
    refine Yz (F1.fin _ {s with heap:=h₁} k _ _ (by exact hh) a1 hx fun h₂ e hs₂ he=>?_)
    exact⟨h₂,e,rfl,rfl,fun c o c1 _ c3 _ q=>hs₂ _ _ c3 (kp1 _ _ c1 q),he⟩
 ·rintro e s' ⟨h',c,rfl,rfl,hk,o,ho,hc⟩
  refine Yz (wpAny_isInstance (T:="StopIteration") (b:=true) ⟨o,ho,hc⟩ isSubtype_stop ?_)
  exact YB (hQ _ hk)
end
section
variable{P:Program}{w:World}{A:Around}{R:Result→Shared→Prop}{It1 It2:Nat→Heap→Prop}{z TI TO i1 i2 l1 l2 d:Addr}{xs ys:Array Value}{ws:List Str}
end
section
variable{P:Program}{w:World}{A:Around}{E:Value→Shared→Prop}{s:Shared}{l1 l2:Addr}{xs ys:Array Value}
end
theorem yF:bootBuiltins "zip"=some (.type "zip"):=by decide +kernel
end L2
set_option maxHeartbeats 4000000
namespace L2
open PySem PySem.Spec PyProof.Rows
section
variable{P:Program}{w:World}{A:Around}{R:Result→Shared→Prop}{s:Shared}{elt tg iter tg2 iter2:Expr}{ifs:List Expr}{scope:Scope}{pos:Pos}{it acc:Value}{env:Env}
end
section
variable{X:Cx}{n:Nat}{N':List Str}{scope:Scope}{elt tg iter tg2 iter2:Expr}{ifs:List Expr}{pos:Pos}{pins:List (Addr×Obj)}{σ:St}{H2:Hp}{s2:Shared}{cl:List (Str×Addr)}
end
end L2
set_option maxHeartbeats 1000000
namespace L2
open PySem PySem.Spec PyProof.Rows
section
variable{X:Cx}
end
end L2
set_option maxHeartbeats 4000000
namespace L2
open PySem PySem.Spec PyProof.Rows
theorem er{prog:Program}{w:World}{A:Around}{R:Result→Shared→Prop}{s:Shared}{kx vx target iter:Expr}{scope:Scope}{pos:Pos}{it:Value}{D:Addr}{env:Env}(I:Nat→Shared→Prop)
  (turn:∀ n s,I n s→wpAny (model prog w) A (pyNext it) (fun r s1=>match r with
   | none=>R (.ok .next) s1
   | some v=>wpAny (model prog w) A (letOwnedTupleGo target it v) (fun _ s1'=>wpAny (model prog w) A (assign target env v) (fun _ s2=>
     wpAny (model prog w) A (eval kx env) (fun kv s4=>wpAny (model prog w) A (eval vx env) (fun vv s5=>
       wpAny (model prog w) A (dictSet D kv vv) (fun _ s6=>∃ m,m<n∧I m s6) (notedBy (model prog w) A env fun e s'=>R (.error e) s') s5) (notedBy (model prog w) A env fun e s'=>R (.error e) s') s4) (notedBy (model prog w) A env fun e s'=>R (.error e) s') s2)
     (notedBy (model prog w) A env fun e s'=>R (.error e) s') s1') (notedBy (model prog w) A env fun e s'=>R (.error e) s') s1) (notedBy (model prog w) A env fun e s'=>R (.error e) s') s)
  (n:Nat) (h:I n s):codeAny (model prog w) A (.compLoop (.DictComp kx vx [⟨target,iter,[],0⟩] scope pos) 0 it (.ref D) env) R s:=by
 refine codeAny_loop rfl I (fun n s hI=>?_) n h
 show wpAny _ A ((compTurn (.DictComp kx vx [⟨target,iter,[],0⟩] scope pos) 0 it (.ref D) env).onRaise (fun x=>do noteFrame x env; theTreesLotGoes x)) _ _ s
 refine wpAny_noted ?_
 rw [compTurn_dict]
 refine Yz (wpAny_standAt (Yz (YH (turn n s hI) (fun r s1 h1=>?_) fun _ _ h'=>h')))
 cases r with
 | none=>exact YB h1
 | some v=>
  refine Yz (YH h1 (fun _ s1' h1'=>?_) fun _ _ h'=>h')
  refine Yz (YH h1' (fun _ s2 h2=>?_) fun _ _ h'=>h')
  refine Yz (YB ?_)
  exact Yz (Yz (YH h2 (fun kv s4 h4=>Yz (wpAny_holding (YH h4 (fun vv s5 h5=>Yz (wpAny_standAt (wpAny_holding (YH h5 (fun _ s6 h6=>YB ⟨rfl,h6⟩) fun _ _ h'=>h')))) fun _ _ h'=>h'))) fun _ _ h'=>h'))
def iJ(n:Nat)(J:It)(g:TG)(tk tv:TE)(σ:St)(H:Hp)(Q:VK):Prop:=
 ∃ W:Nat→Nat→List (Key×V)→St→Hp→Prop,(∃ m,W 0 m [] (List.replicate n none++σ) H)∧∀ i m kvs σ' H,W i m kvs σ' H→
  (J.stop i H∧∀ D,H D=none→Q (.ref D) (upd H D (.dK kvs)))∨
  (J.go i H∧kvs.length<sizeLine∧∀ x H',J.yld i H x H'→g x σ' H' fun σ2 H2=>tk σ2 H2 fun y H3=>tv σ2 H3 fun v H4=>∃ k,y=kV k∧∃ m',m'<m∧W (i+1) m' (cg kvs k v) σ2 H4)
def rN(n:Nat)(wi:TI)(g:ay TG)(tk tv:ay TE):TE:=fun σ H Q=>wi σ H fun J H1=>∀ cl C ex s Hc,iJ n J (g cl C ex s Hc) (tk cl C ex s Hc) (tv cl C ex s Hc) σ H1 Q
section
variable{X:Cx}{n:Nat}{N':List Str}{scope:Scope}{kx vx tg iter:Expr}{pos:Pos}{pins:List (Addr×Obj)}{σ:St}{H2:Hp}{s2:Shared}{cl:List (Str×Addr)}
theorem qR{C D:Addr}{fp:List Addr}{s':Shared}{od:Obj}(hnc:∀ v,od.data≠.cell v)(S:aK n N' X scope)(c1:∀ x c,cl.lookup x=some c→X.env.cells.lookup x=some c)(c2:∀ x∈scope.names,x.2=.free→∃ c,cl.lookup x.1=some c)
  (I2:Inv X pins σ H2 s2) (f2:∀ b∈fp,d3 X pins H2 b) (fl:∀ b∈fp,@LT.lt Nat _ b s2.heap.objs.size) (hD:@Eq Nat D s2.heap.objs.size) (hC:@Eq Nat C (s2.heap.objs.size+1))
  (ho:s'.os=s2.os) (hg:s'.gens=s2.gens) (old:∀ b o,s2.heap.get? b=some o→s'.heap.get? b=some o) (hns:∃ m,s'.heap.Ns C m) (hd:s'.heap.get? D=some od) :
  Inv (ak X N' scope cl C fp s2 H2) [(D,od)] (List.replicate n none++σ) H2 s':=by
 have frl:∀ b∈frs X.stack,@LT.lt Nat _ b s2.heap.objs.size:=fun b hb=>by
  obtain⟨_,o,ho,_⟩:=I2.stack.mem hb
  exact YF ho
 have celll:∀ x c,cl.lookup x=some c→c<s2.heap.objs.size:=fun x c e=>by
  obtain⟨v,q⟩:=I2.cell x c (c1 x c e)
  exact q.lt
 have kOf:∀ x,(ak X N' scope cl C fp s2 H2).env.kindOf x=(scope.names.lookup x).map fun k=>if (k==NameKind.free&&X.env.scope.kind==.function&&X.env.kindOf x==some .cell) then NameKind.cell else k:=fun x=>bR
 have kfree:∀ x,((ak X N' scope cl C fp s2 H2).env.kindOf x=some .cell∨(ak X N' scope cl C fp s2 H2).env.kindOf x=some .free)→scope.names.lookup x=some .free:=fun x hx=>by
  rw [kOf x] at hx
  cases e:scope.names.lookup x with
  | none=>rw [e] at hx; rcases hx with hx | hx <;> cases hx
  | some kd=>
   rw [e] at hx
   cases kd with
   | free=>rfl
   | «local»=>rcases hx with hx | hx <;> (simp at hx)
   | cell=>exact absurd rfl (S.cell _ (PySem.mem_of_lookup e))
   | globalExplicit=>rcases hx with hx | hx <;> (simp at hx)
   | globalImplicit=>rcases hx with hx | hx <;> (simp at hx)
 have hasC:∀ x,scope.names.lookup x=some .free→∃ c,cl.lookup x=some c:=fun x hx=>c2 _ (PySem.mem_of_lookup hx) rfl
 have hH:∀ a,s2.heap.objs.size≤a→H2 a=none:=fun a ha=>I2.hok.fresh ha
 have ok:(ak X N' scope cl C fp s2 H2).Ok:=by
  refine⟨I2.ok.mod,S.kind,I2.ok.glob,I2.ok.blt,?_,fun x y c h1 h2=>?_,fun x hx=>hasC x (kfree x hx),fun x c h=>absurd h (by show ¬ (false=true); decide),I2.ok.hd,I2.ok.frames,.inl rfl,fun b hb=>?_,I2.bs,YE I2.ok.bsz I2.sz,fun b o e hb=>?_,fun b hb z=>?_,I2.stack,I2.stkFree⟩
  ·show s2.heap.objs.size≤C
   omega
  ·exact I2.ok.inj x y c (c1 x c h1) (c1 y c h2)
  ·have:=fl b hb
   refine⟨by show @Ne Nat b C; omega,fun x c e z=>?_⟩
   exact(f2 b hb).2.2.2.2.1 x c (c1 x c e) z
  ·obtain⟨f0,f1,ff,f3,_⟩:=f2 b hb
   rcases f3 with z | z
   ·exact I2.ok.noex b o e z
   ·have q1:@LT.lt Nat _ b X.base.objs.size:=YF e
    have q2:=I2.ok.bsz
    have q3:@LE.le Nat _ X.s₀.heap.objs.size b:=z
    omega
  ·obtain⟨f0,f1,ff,_⟩:=f2 b hb
   exact(YM.mp (I2.stkSub b z)).elim f1 ff
 refine⟨ok,ho,by rw [hg]; exact I2.bare,Un.kept old,?_,fun x c e=>?_,?_,fun x c e=>?_,fun p hp=>?_,I2.hok.kept old,?_⟩
 ·obtain⟨m,hn⟩:=hns
  refine⟨m,hn,fun i x v e1 e2 e3=>?_⟩
  have e2':(List.replicate n (none:Option V)++σ)[i]? = some (some v):=e2
  have e1':N'[i]? = some x:=e1
  by_cases hi:i<n
  ·rw [X5 (by simpa using hi),List.getElem?_replicate] at e2'
   split at e2' <;> cases e2'
  ·obtain⟨j,rfl⟩:∃ j,i=n+j:=⟨i-n,by omega⟩
   rw [X0 (by simp)] at e2'
   simp only [XO,Nat.add_sub_cancel_left] at e2'
   have hj:j<X.N.length:=by rw [← I2.len]; exact(YV.mp e2').1
   have lk:=XN.mp S.look j (List.mem_range.mpr hj)
   rw [e1'] at lk
   have vis:scope.names.lookup x=some .local∨scope.names.lookup x=some .cell∨scope.names.lookup x=some .free:=by
    have e3':(ak X N' scope cl C fp s2 H2).env.kindOf x=some .local∨(ak X N' scope cl C fp s2 H2).env.kindOf x=some .cell∨(ak X N' scope cl C fp s2 H2).env.kindOf x=some .free:=e3
    rcases e3' with z | z | z
    ·rw [kOf x] at z
     cases e:scope.names.lookup x with
     | none=>rw [e] at z; cases z
     | some kd=>
      rw [e] at z
      simp only [XM] at z
      split at z
      ·cases z
      ·cases z; exact .inl rfl
    ·exact .inr (.inr (kfree x (.inl z)))
    ·exact .inr (.inr (kfree x (.inr z)))
   have lk2:scope.names.lookup x=some .free∧X.N[j]? = some x:=by
    simp only [Bool.or_eq_true,YW,Bool.not_eq_true',Bool.or_eq_false_iff,beq_iff_eq,beq_eq_false_iff_ne] at lk
    rcases lk with z | z
    ·exact z
    ·rcases vis with q | q | q
     ·exact absurd q z.1.1
     ·exact absurd q z.1.2
     ·exact absurd q z.2
   obtain⟨m0,hn0,hl0⟩:=I2.loc
   have vX:Vis X.env.scope x:=by
    rcases S.free _ (PySem.mem_of_lookup lk2.1) rfl with z | z
    ·exact .inr (.inl z)
    ·exact .inr (.inr z)
   obtain⟨u,r,l⟩:=hl0 j x v lk2.2 e2' vX
   refine⟨u,r,.inr ⟨?_,?_⟩⟩
   ·rw [kOf x,lk2.1]
    simp only [XM]
    split
    ·exact .inl rfl
    ·exact .inr rfl
   ·obtain⟨c,hc⟩:=hasC x lk2.1
    refine⟨c,hc,?_⟩
    rcases l with ⟨kl,_⟩ | ⟨_,c',hc',z⟩
    ·rcases S.free _ (PySem.mem_of_lookup lk2.1) rfl with q | q <;> (rw [kl] at q; cases q)
    ·have:=c1 x c hc
     rw [hc'] at this; cases this
     obtain⟨oc,hoc,hdc⟩:=z
     exact⟨oc,old _ _ hoc,hdc⟩
 ·obtain⟨v,oc,hoc,hdc⟩:=I2.cell x c (c1 x c e)
  exact⟨v,oc,old _ _ hoc,hdc⟩
 ·exact hH C (by omega)
 ·exact I2.freeC x c (c1 x c e)
 ·have e:p=(D,od):=by simpa [ak] using hp
  subst e
  refine⟨hd,hH D (by omega),by show @Ne Nat D C; omega,fun z=>?_,hnc⟩
  have:=frl D z
  omega
 ·show (List.replicate n none++σ).length=N'.length
  rw [YY,XO,S.len,I2.len]
theorem mP{E0:XK}{it:Addr}{fp:List Addr}{tn:Nat→Heap→Prop}{J:It}{g:ay TG}{tk tv:ay TE}{Q:VK}{E:Value→Shared→Prop}
  (hc:X.calm=true) (S:aK n N' X scope) (c1:∀ x c,cl.lookup x=some c→X.env.cells.lookup x=some c) (c2:∀ x∈scope.names,x.2=.free→∃ c,cl.lookup x.1=some c)
  (I2:Inv X pins σ H2 s2) (T:jt X.prog X.w X.K tg J fp it tn) (st2:tn 0 s2.heap) (f2:∀ b∈fp,d3 X pins H2 b)
  (hg:∀ cl C ex s H,PG ((ak X N' scope cl C ex s H).exc E0) tg (g cl C ex s H)) (hk:∀ cl C ex s H,PE ((ak X N' scope cl C ex s H).exc E0) kx (tk cl C ex s H)) (hv:∀ cl C ex s H,PE ((ak X N' scope cl C ex s H).exc E0) vx (tv cl C ex s H))
  (cok:∀ cl C ex s Hc,iJ n J (g cl C ex s Hc) (tk cl C ex s Hc) (tv cl C ex s Hc) σ H2 Q) :
  wpAny (model X.prog X.w) X.A newDict (fun acc s3=>wpAny (model X.prog X.w) X.A (newFunctionEnv scope X.env.globals cl [] X.env.qual none .none (some X.env)) (fun cenv s4=>
   codeAny (model X.prog X.w) X.A (.compStart (.DictComp kx vx [⟨tg,iter,[],0⟩] scope pos) 0 (.ref it) acc {cenv with scope:=relabel scope X.env})
    (fun r s'=>match r with | .ok _=>bK X pins σ Q acc cenv.locals s' | .error x=>bU (ak X N' scope cl cenv.locals fp s2 H2) E0 x s') s4) E s3) E s2:=by
 have fl:∀ b∈fp,@LT.lt Nat _ b s2.heap.objs.size:=fun b hb=>by
  obtain⟨o,e,_⟩:=T.obj _ _ st2 b hb
  exact YF e
 have frl:∀ b∈frs X.stack,@LT.lt Nat _ b s2.heap.objs.size:=fun b hb=>by
  obtain⟨_,o,ho,_⟩:=I2.stack.mem hb
  exact YF ho
 have celll:∀ x c,X.env.cells.lookup x=some c→@LT.lt Nat _ c s2.heap.objs.size:=fun x c e=>by
  obtain⟨v,q⟩:=I2.cell x c e
  exact q.lt
 refine wpAny_newObj_type (wpAny_newFunctionEnv S.cell (by intro y hy; simp at hy) (fun h1 hns1 hsb1=>?_) S.kind)
 dsimp only at hns1 hsb1 ⊢
 generalize hH2:s2.heap.push {cls:=.type "dict",dict:=none,data:=.dict #[]}=G at hns1 hsb1 ⊢
 have hC:@Eq Nat G.objs.size (s2.heap.objs.size+1):=by rw [← hH2,XD]
 have hDC:s2.heap.objs.size≠G.objs.size:=by show @Ne Nat _ _; omega
 have below:∀ b,@LT.lt Nat _ b s2.heap.objs.size→b≠G.objs.size∧b≠s2.heap.objs.size:=fun b hb=>⟨by show @Ne Nat _ _; omega,YT hb⟩
 have old:∀ b o,s2.heap.get? b=some o→h1.get? b=some o:=fun b o e=>hsb1.extBut b o (below b (YF e)).1 (YA _ (hH2▸YA _ e))
 have hacc:h1.get? s2.heap.objs.size=some {cls:=.type "dict",data:=.dict #[]}:=hsb1.extBut _ _ hDC (YA _ (hH2▸YJ _ rfl))
 have hst1:tn 0 h1:=T.keep _ _ _ st2 fun b hb o e=>old b o e
 let X':=ak X N' scope cl G.objs.size fp s2 H2
 obtain⟨W,⟨m0,w0⟩,turn⟩:=cok cl G.objs.size fp s2 H2
 have hXe:X'.xe=X.xe:=rfl
 have stat:∀ {H':Hp} {ps:List (Addr×Obj)},(∀ b∈fp,H' b=none)→(∀ p∈ps,p.1=s2.heap.objs.size)→∀ b∈fp,d3 X' ps H' b:=fun {H' ps} hn hp b hb=>by
  obtain⟨f0,f1,ff,f3,f4,f5⟩:=f2 b hb
  refine⟨hn b hb,(below b (fl b hb)).1,fun z=>?_,.inl hb,fun x c e z=>?_,fun p hp' z=>?_⟩
  ·exact(YM.mp (I2.stkSub b z)).elim f1 ff
  ·exact f4 x c (c1 x c e) z
  ·have e:p.1=s2.heap.objs.size:=hp p (by simpa [X',ak] using hp')
   exact(below b (fl b hb)).2 (z.symm.trans e)
 have loop:∀ s3:Shared,s3={s2 with heap:=h1,toks:=s2.toks+([]:List (Str×Value)).length}→
   codeAny (model X.prog X.w) X.A (.compLoop (.DictComp kx vx [⟨tg,iter,[],0⟩] scope pos) 0 (.ref it) (.ref s2.heap.objs.size) (compEnvC scope cl G.objs.size X.env))
    (fun r s'=>match r with | .ok _=>bK X pins σ Q (.ref s2.heap.objs.size) G.objs.size s' | .error x=>bU (ak X N' scope cl G.objs.size fp s2 H2) E0 x s') s3:=by
  rintro s3 rfl
  have I3:=qR (od:={cls:=.type "dict",data:=.dict #[]}) (fun v z=>by cases z) (s':={s2 with heap:=h1,toks:=s2.toks+([]:List (Str×Value)).length}) S c1 c2 I2 f2 fl rfl hC rfl rfl old ⟨_,hns1⟩ hacc
  have hd0:h1.DictOf (aE X.prog X.w) s2.heap.objs.size []:=⟨_,_,_,hacc,⟨rfl,rfl,rfl⟩,rfl,by intro e he; simp at he,.nil,List.nodup_nil⟩
  refine er (fun m s'=>∃ i ys us od σ' H',Inv X' [(s2.heap.objs.size,od)] σ' H' s'∧KV ys us∧s'.heap.DictOf (aE X.prog X.w) s2.heap.objs.size us∧tn i s'.heap∧(∀ b∈fp,H' b=none)∧ys.length≤sizeLine∧W i m ys σ' H') ?_ m0
   ⟨0,[],[],_,_,H2,I3,.nil,hd0,hst1,fun b hb=>(f2 b hb).1,YO _,w0⟩
  rintro m s' ⟨i,ys,us,od,σ',H',I',rv,dd,st',fr',hlen,w'⟩
  rcases turn i m ys σ' H' w' with ⟨stop,q⟩ | ⟨go,hlt,step⟩
  ·refine thn (T.done X' rfl rfl rfl hc i _ s' σ' H' _ I' (stat fr' (by simp)) st' stop) fun r s4 ⟨hr,I4⟩=>?_
   subst hr
   show bK X pins σ Q (.ref s2.heap.objs.size) G.objs.size s4
   obtain⟨m1,hn1,_⟩:=I4.loc
   obtain⟨pD,nD,_,_,_⟩:=I4.pin (s2.heap.objs.size,od) (YI _ (by simp))
   have nD:H' s2.heap.objs.size=none:=nD
   have pD:s4.heap.get? s2.heap.objs.size=some od:=pD
   have hok:HOk X.prog X.w (upd H' s2.heap.objs.size (.dK ys)) s4.heap:=fun b u e=>by
    by_cases hb:b=s2.heap.objs.size
    ·subst hb
     rw [aa] at e; cases e
     exact⟨hlen,beq_eq_false_iff_ne.mpr (X3 I2.big),us,rv,dd.at fun o e=>by rw [(I'.pin (s2.heap.objs.size,od) (YI _ (by simp))).1] at e; cases e; exact pD⟩
    ·rw [ae hb] at e
     exact(I4.hok b u e).stay (fun _ _ _ q=>q) (fun c q=>by rw [ae (af q nD)]; exact q) fun c xs q=>by rw [ae (af q nD)]; exact q
   have un:Un (frs X.stack) fp H2 (upd H' s2.heap.objs.size (.dK ys)) s2.heap s4.heap:=by
    have u0:=I4.base
    refine⟨u0.keep,u0.slot,fun b o e n hx=>?_,u0.there,fun b xs e=>?_,fun b o xs e=>?_,fun b ps e=>?_⟩
    ·rw [ae (below b (YF e)).2]; exact u0.free b o e n hx
    ·have q:=u0.tups b xs e
     rw [ae (af q nD)]; exact q
    ·have q:=u0.frzs b o xs e
     rw [ae (af q nD)]; exact q
    ·obtain⟨more,q⟩:=u0.tbls b ps e
     exact⟨more,by rw [ae (af q nD)]; exact q⟩
   have IX:Inv X pins σ (upd H' s2.heap.objs.size (.dK ys)) s4:=I2.call' (ch:=fp) I4.os un hok I4.bare fun b hb=>by
    obtain⟨f0,f1,ff,f3,f4,f5⟩:=f2 b hb
    exact⟨f3,f1,f4,f5⟩
   have hG0:H' G.objs.size=none:=I4.free
   refine⟨s2.heap.objs.size,_,m1,rfl,IX,hn1,⟨by rw [ae (Ne.symm hDC)]; exact hG0,fun z=>?_,fun z=>?_,.inr ?_,fun x c e z=>?_,fun p hp z=>?_⟩,q _ nD⟩
   ·have q1:@LT.lt Nat _ X.env.locals s2.heap.objs.size:=I2.lt
    have q2:@Eq Nat G.objs.size X.env.locals:=z
    omega
   ·have z':G.objs.size∈frs X.outer:=z
    obtain⟨_,o,ho,_⟩:=I2.funs.mem z'
    have q1:@LT.lt Nat _ G.objs.size s2.heap.objs.size:=YF ho
    omega
   ·have q1:=I2.sz
    show @LE.le Nat _ X.s₀.heap.objs.size G.objs.size
    omega
   ·have q1:=celll x c e
    have q2:@Eq Nat c G.objs.size:=z
    omega
   ·have q1:@LT.lt Nat _ p.1 s2.heap.objs.size:=YF (I2.pin p hp).1
    have q2:@Eq Nat p.1 G.objs.size:=z
    omega
  ·refine thn (T.item X' rfl rfl rfl hc i _ s' σ' H' _ I' (stat fr' (by simp)) st' go) fun r s4 ⟨u,hr,h4⟩=>?_
   subst hr
   show wpAny _ _ (letOwnedTupleGo tg (.ref it) u) _ _ s4
   refine thn h4 fun _ s5 ⟨x,H5,I5,r5,y5,st5,fr5⟩=>?_
   have I5':=I5.pinned (stat fr5 (by simp)) (T.obj _ _ st5)
   have w1:=hg cl G.objs.size fp s2 H2 _ s5 σ' H5 x u _ (I5'.wish _) r5 (step x H5 y5)
   refine YH w1 (fun _ s6 ⟨σ6,H6,I6,q6⟩=>?_) fun v s hv=>YH (XE.note (X:=ak X N' scope cl G.objs.size fp s2 H2) (E:=E0) hv) (fun _ _ z=>z) fun _ _ z=>z
   have w2:=hk cl G.objs.size fp s2 H2 _ s6 σ6 H6 _ I6 q6
   refine YH w2 (fun yk s65 ⟨v0,H65,I65,r65,q65⟩=>?_) fun v s hv=>YH (XE.note (X:=ak X N' scope cl G.objs.size fp s2 H2) (E:=E0) hv) (fun _ _ z=>z) fun _ _ z=>z
   have w3:=hv cl G.objs.size fp s2 H2 _ s65 σ6 H65 _ I65 q65
   refine YH w3 (fun y s7 ⟨v,H7,I7w,r7,kk,ek,m',hm',w7⟩=>?_) fun v s hv=>YH (XE.note (X:=ak X N' scope cl G.objs.size fp s2 H2) (E:=E0) hv) (fun _ _ z=>z) fun _ _ z=>z
   subst ek
   have I7:=I7w.unwish
   have pinD:=I7.pin (s2.heap.objs.size,od) (YI _ (XC _ (by simp)))
   obtain⟨pD,nD,lD,fD,_⟩:=pinD
   have dd7:s7.heap.DictOf (aE X.prog X.w) s2.heap.objs.size us:=dd.at fun o e=>by rw [(I'.pin (s2.heap.objs.size,od) (YI _ (by simp))).1] at e; cases e; exact pD
   refine wpAny_dictSet_pairs (knd:=aE X.prog X.w) (jh r65) dd7 (fun h8 dd8 hs8=>?_) (by rw [← rv.length]; exact hlen)
   obtain⟨o8,es8,ep8,ho8,hx8,hd8,_⟩:=id dd8
   have nD:H7 s2.heap.objs.size=none:=nD
   have I8:Inv X' (b8 fp s5.heap) σ6 H7 {s7 with heap:=h8,toks:=s7.toks+1}:=by
    refine(I7.pins_of (pins':=b8 fp s5.heap) fun p hp=>I7.pin p (YI _ (YI _ hp))).turned (t':=s7.toks+1) (it:=s2.heap.objs.size) (fun b o hb e=>(hs8.2 b hb).trans e) nD lD (.inr (YD _)) (fun x c e z=>?_) fun p hp z=>?_
    ·have q1:=celll x c (c1 x c e)
     have q2:@Eq Nat c s2.heap.objs.size:=z
     omega
    ·have hp':p∈b8 fp s5.heap:=by simpa [X',ak] using hp
     have q1:=fl p.1 (dY hp').1
     have q2:@Eq Nat p.1 s2.heap.objs.size:=z
     omega
   have I9:Inv X' [(s2.heap.objs.size,o8)] σ6 H7 {s7 with heap:=h8,toks:=s7.toks+1}:=I8.pins_of fun p hp=>by
    have e:p=(s2.heap.objs.size,o8):=by simpa using hp
    subst e
    exact⟨ho8,nD,lD,fD,fun v z=>by rw [hd8] at z; cases z⟩
   refine⟨m',hm',i+1,_,_,o8,σ6,H7,I9,rv.put kk r7,dd8,T.keep _ _ _ st5 fun b hb o e=>?_,fun b hb=>?_,?_,w7⟩
   ·exact(I8.pin (b,o) (YI _ (ba hb e))).1
   ·obtain⟨o,e,d⟩:=T.obj _ _ st5 b hb
    exact(I8.pin (b,o) (YI _ (ba hb e))).2.1
   ·have:=bz ys kk v; omega
 exact codeAny_compStart_dict (loop _ rfl) (T.self _ 0 _ _ _ hst1 (loop _ rfl))
theorem qo{E0:XK}{wi:TI}{g:ay TG}{tk tv:ay TE}(fr:cj X)(hc:X.calm=true)(S:aK n N' X scope)(hi:PI (X.exc E0) tg iter wi)
  (hg:∀ cl C ex s H,PG ((ak X N' scope cl C ex s H).exc E0) tg (g cl C ex s H)) (hk:∀ cl C ex s H,PE ((ak X N' scope cl C ex s H).exc E0) kx (tk cl C ex s H)) (hv:∀ cl C ex s H,PE ((ak X N' scope cl C ex s H).exc E0) vx (tv cl C ex s H))
  (hs:∀ x,foldedSetIterable iter X.env x=pure x:=by intro _; rfl):PE (X.exc E0) (.DictComp kx vx [⟨tg,iter,[],0⟩] scope pos) (rN n wi g tk tv):=by
 intro pins s σ H Q I h
 rw [PySem.arm_eval_DictComp]
 obtain⟨cl,hcl,c1,c2⟩:=dw (scope:=scope) (env:=X.env) fun x hx hf=>I.ok.has x.1 (S.free x hx hf)
 refine wpAny_comprehension_free (use:=none) rfl hs hcl S.kind S.names (thn (hi pins s σ H _ I h) fun v s1 h1=>thn h1 fun itv s2 h2=>?_)
 obtain⟨it,fp,tn,J,H2,e,I2w,T,st2,f2,cok⟩:=h2
 subst e
 have I2:=I2w.unwish
 refine YH (mP (X:=X) (E0:=E0) (pos:=pos) (iter:=iter) (Q:=Q) (E:=(X.exc E0).xe) hc S c1 c2 I2 T st2 f2 hg hk hv cok) (fun acc s3 h3=>YH h3 (fun cenv s4 h4=>codeAny_mono h4 fun r s' hr=>?_) fun _ _ z=>z) fun _ _ z=>z
 cases r with
 | error e=>exact gh I2 f2 fr hr
 | ok f=>
  obtain⟨D,H',m,rfl,I',hn,⟨f0,f1,ff,f3,f4,f5⟩,q⟩:=hr
  refine⟨m,hn,fun h' hs'=>⟨.ref D,H',Inv.wish ?_ _,rfl,q⟩⟩
  exact I'.turned (t':=s'.toks) (fun b o hb e=>(hs'.2 b hb).trans e) f0 f1 f3 f4 f5
end
end L2
set_option maxHeartbeats 1000000
namespace L2
open PySem PySem.Spec PyProof.Rows
section
variable{P:Program}{w:World}{A:Around}{E:Value→Shared→Prop}{s:Shared}
theorem pY{A:Around}(hh:A.handled=none)(it l:Addr)(its:Array Value)(k:Nat)(ne:l≠it)(hk:k≤its.size):
  WalksS P w A it [it,l] [it] (fun a b=>b=a) (its.size-k) (fun i v=>its[k+i]? = some v) fun i s=>s.heap.IsListIter it l (k+i)∧s.heap.IsList l its where
 sub:=fun b hb=>by rw [YK.mp hb]; exact YX
 grefl:=fun _=>rfl
 gtrans:=fun a b c h1 h2=>by rw [h2,h1]
 frame:=fun i s h' tk st _ hk=>⟨st.1.at fun o e=>hk it YX o e,st.2.at fun o e=>hk l (Y0 _ YX) o e⟩
 item:=fun i s Q E hi st q=>by
  have hlt:k+i<its.size:=by omega
  refine wpAny_pyNext_list_item st.1 st.2 (x:=its[k+i]) (by simp [hlt]) fun h1 a1 s1=>?_
  exact q _ _ (by simp [hlt]) ⟨a1,st.2.extBut s1.extBut ne⟩ ⟨fun b o hb e=>s1.extBut b o (fun z=>hb (by rw [z]; exact YK.mpr rfl)) e,rfl,rfl,rfl,YD _⟩
 done:=fun s Q E st q=>wpAny_pyNext_list_end hh st.1 st.2 (by have:=hk; simp; omega) fun h2 e2=>q _ ⟨fun b o hb e=>e2 b o (fun z=>hb (by rw [z]; exact YK.mpr rfl)) e,rfl,rfl,rfl,YD _⟩
 self:=fun i s Q E st q=>wpAny_pyIter_listiter st.1 q
theorem pX{A:Around}(hh:A.handled=none)(it l:Addr)(its:Array Value)(k:Nat)(ne:l≠it)(hk:k≤its.size):
  WalksS P w A it [it,l] [it] (fun a b=>b=a) (its.size-k) (fun i v=>its[k+i]? = some v) fun i s=>IsTupIter s.heap it l (k+i)∧IsTup s.heap l its where
 sub:=fun b hb=>by rw [YK.mp hb]; exact YX
 grefl:=fun _=>rfl
 gtrans:=fun a b c h1 h2=>by rw [h2,h1]
 frame:=fun i s h' tk st _ hk=>⟨let ⟨o,ho,r⟩:=st.1; ⟨o,hk it YX o ho,r⟩,let ⟨o,ho,r⟩:=st.2; ⟨o,hk l (Y0 _ YX) o ho,r⟩⟩
 item:=fun i s Q E hi st q=>by
  have hlt:k+i<its.size:=by omega
  refine next_tuple_item st.1 st.2 (x:=its[k+i]) (by simp [hlt]) fun h1 a1 s1=>?_
  exact q _ _ (by simp [hlt]) ⟨a1,st.2.extBut s1.extBut ne⟩ ⟨fun b o hb e=>s1.extBut b o (fun z=>hb (by rw [z]; exact YK.mpr rfl)) e,rfl,rfl,rfl,YD _⟩
 done:=fun s Q E st q=>next_tuple_end hh st.1 st.2 (by have:=hk; simp; omega) fun h2 e2=>q _ ⟨fun b o hb e=>e2 b o (fun z=>hb (by rw [z]; exact YK.mpr rfl)) e,rfl,rfl,rfl,YD _⟩
 self:=fun i s Q E st q=>wpAny_pyIter_tupleiter (show s.heap.IsTupleIter it l (k+i) from st.1) q
theorem ji{its acc:Array Value}{k:Nat}(hk:k≤its.size)(h:ItemsOf (fun i v=>its[k+i]? = some v) acc (its.size-k)):acc.toList=its.toList.drop k:=by
 refine List.ext_getElem? fun i=>?_
 rw [List.getElem?_drop,Array.getElem?_toList,Array.getElem?_toList]
 cases e:acc[i]? with
 | some v=>exact(h.2 i v e).symm
 | none=>
  have hs:=h.1
  have : acc.size≤i:=by simpa using e
  symm
  simp
  omega
theorem rU{l:Addr}{its:Array Value}{Q:List Value→Shared→Prop}(hh:A.handled=none)(hl:s.heap.IsList l its)(h1:1≤its.size)(hz:its.size≤sizeLine)
  (q:∀ h' t',(∀ b o,s.heap.get? b=some o→h'.get? b=some o)→wpAny (model P w) A (newList (its.toList.drop 1)) (fun v s2=>Q (its.toList.take 1++[v]) s2) E {s with heap:=h',toks:=t'}):wpAny (model P w) A (unpackItems (.ref l) 2 (some 1)) Q E s:=by
 have ne:l≠s.heap.objs.size:=by
  obtain⟨o,e,_⟩:=hl
  exact YT (YF e)
 unfold unpackItems notIterableAtAll
 refine Yz (Yz (wpAny_specialOf hl.typeIs slot_list_iter.lookup (YB ?_)))
 simp only [XF,if_false]
 refine Yz (wpAny_holding (wpAny_pyIter_list hl ?_))
 refine Yz (wpAny_holding (mJ ne 1 0 _ _ ⟨_,YJ _ rfl,rfl,rfl⟩ (hl.push _) (by omega) fun h2 a2 s2=>?_))
 rw [List.drop_zero,if_neg (by rw [XX,XV]; omega)]
 refine Yz (wpAny_holding (wpAny_collect_iter (T:="list_iterator") (.inr (.inr (.inl rfl))) (pY (show A.in1.handled=none from hh) s.heap.objs.size l its 1 ne h1) (fun i s st=>st.1.typeIs) ⟨a2,(hl.push _).extBut s2.extBut ne⟩
  (fun b hb=>?_) YX (fun s' acc mv ia=>?_) (by omega)))
 ·have hz':s.heap.objs.size<h2.objs.size:=by
   obtain⟨o,e,_⟩:=a2
   exact YF e
  rcases YM.mp hb with rfl | hb
  ·exact hz'
  ·rw [YK.mp hb]
   obtain⟨o,e,_⟩:=hl
   exact Nat.lt_trans (YF e) hz'
 ·rw [ji h1 ia]
  have hlen:¬ ((its.toList.drop 1).length<2-1-1):=by omega
  rw [if_neg hlen]
  refine Yz ?_
  have e1:(its.toList.drop 1).take ((its.toList.drop 1).length - (2-1-1))=its.toList.drop 1:=by rw [show (its.toList.drop 1).length - (2-1-1)=(its.toList.drop 1).length from by omega,Y8]
  have e2:(its.toList.drop 1).drop ((its.toList.drop 1).length - (2-1-1))=[]:=by rw [show (its.toList.drop 1).length - (2-1-1)=(its.toList.drop 1).length from by omega,List.drop_length]
  rw [e1,e2]
  obtain⟨mh,mg,md,mo,mt⟩:=mv
  obtain⟨h',g',d',t',o'⟩:=s'
  simp only at mg md mo mh
  subst mg md mo
  refine YH (q h' t' (fun b o e=>?_)) (fun v s3 z=>YB ?_) fun _ _ z=>z
  ·have nb:b≠s.heap.objs.size:=YT (YF e)
   exact mh b o (fun z=>nb (YK.mp z)) (s2.extBut b o nb (YA _ e))
  ·rw [XT]; exact z
theorem rS{l:Addr}{its:Array Value}{Q:List Value→Shared→Prop}(hh:A.handled=none)(hl:IsTup s.heap l its)(h1:1≤its.size)(hz:its.size≤sizeLine)
  (q:∀ h' t',(∀ b o,s.heap.get? b=some o→h'.get? b=some o)→wpAny (model P w) A (newList (its.toList.drop 1)) (fun v s2=>Q (its.toList.take 1++[v]) s2) E {s with heap:=h',toks:=t'}):wpAny (model P w) A (unpackItems (.ref l) 2 (some 1)) Q E s:=by
 have ne:l≠s.heap.objs.size:=by
  obtain⟨o,e,_⟩:=hl
  exact YT (YF e)
 unfold unpackItems notIterableAtAll
 refine Yz (Yz (wpAny_specialOf hl.typeIs slot_tuple_iter.lookup (YB ?_)))
 simp only [XF,if_false]
 refine Yz (wpAny_holding (iter_tuple hl ?_))
 refine Yz (wpAny_holding (draw_tuple ne 1 0 _ _ ⟨_,YJ _ rfl,rfl,rfl⟩ (hl.push _) (by omega) fun h2 a2 s2=>?_))
 rw [List.drop_zero,if_neg (by rw [XX,XV]; omega)]
 refine Yz (wpAny_holding (wpAny_collect_iter (T:="tuple_iterator") (.inr (.inr (.inr rfl))) (pX (show A.in1.handled=none from hh) s.heap.objs.size l its 1 ne h1) (fun i s st=>st.1.typeIs) ⟨a2,(hl.push _).extBut s2.extBut ne⟩
  (fun b hb=>?_) YX (fun s' acc mv ia=>?_) (by omega)))
 ·have hz':s.heap.objs.size<h2.objs.size:=by
   obtain⟨o,e,_⟩:=a2
   exact YF e
  rcases YM.mp hb with rfl | hb
  ·exact hz'
  ·rw [YK.mp hb]
   obtain⟨o,e,_⟩:=hl
   exact Nat.lt_trans (YF e) hz'
 ·rw [ji h1 ia]
  have hlen:¬ ((its.toList.drop 1).length<2-1-1):=by omega
  rw [if_neg hlen]
  refine Yz ?_
  have e1:(its.toList.drop 1).take ((its.toList.drop 1).length - (2-1-1))=its.toList.drop 1:=by rw [show (its.toList.drop 1).length - (2-1-1)=(its.toList.drop 1).length from by omega,Y8]
  have e2:(its.toList.drop 1).drop ((its.toList.drop 1).length - (2-1-1))=[]:=by rw [show (its.toList.drop 1).length - (2-1-1)=(its.toList.drop 1).length from by omega,List.drop_length]
  rw [e1,e2]
  obtain⟨mh,mg,md,mo,mt⟩:=mv
  obtain⟨h',g',d',t',o'⟩:=s'
  simp only at mg md mo mh
  subst mg md mo
  refine YH (q h' t' (fun b o e=>?_)) (fun v s3 z=>YB ?_) fun _ _ z=>z
  ·have nb:b≠s.heap.objs.size:=YT (YF e)
   exact mh b o (fun z=>nb (YK.mp z)) (s2.extBut b o nb (YA _ e))
  ·rw [XT]; exact z
inductive gStar(K:WB)(t:TGs)(v:V)(σ:St)(H:Hp)(Q:St→Hp→Prop):Prop | mk (a x xs) (_:v=.ref a) (_:(SqL K H a (x::xs)∨SqT K H a (x::xs))) (_:∀ l,H l=none→t [x,.ref l] σ (upd H l (.lst xs)) Q)
theorem vB{X:Cx}{e1 e2:Expr}{p pos:Pos}{k:Nat}{t:TGs}(hc:X.calm=true)(h:PGs X [e1,e2] t)(hst:(assignEach [e1,.Starred e2 p] X.env).findIdx? (·.1)=some 1:=by rfl)
  (hm:(assignEach [e1,.Starred e2 p] X.env).map (·.2)=(assignEach [e1,e2] X.env).map (·.2):=by rfl) (hn:(assignEach [e1,.Starred e2 p] X.env).length=2:=by rfl):PG X (.Tuple [e1,.Starred e2 p] k pos) (gStar X.K t):=by
 intro pins s σ H v u Q I r hw
 obtain⟨a,x,xs,rfl,hq,hw⟩:=hw
 cases r
 rw [assign_Tuple]
 refine Yz (wpAny_standAt ?_)
 unfold unpack
 rw [hst,hn,hm]
 have fin:∀ (its:List Value) (h':Heap) (t':Nat),ax (x::xs) its→(x::xs).length≤sizeLine→(∀ b o,s.heap.get? b=some o→h'.get? b=some o)→
   wpAny (model X.prog X.w) X.A (newList (its.drop 1)) (fun v s2=>wpAny (model X.prog X.w) X.A (assignInOrder ((assignEach [e1,e2] X.env).map (·.2)) (its.take 1++[v])) (fun _ s'=>∃ σ' H',Inv X pins σ' H' s'∧Q σ' H') X.xe s2) X.xe {s with heap:=h',toks:=t'}:=by
  intro its h' t' rv hz hk
  cases rv with
  | cons r0 rs=>
   rename_i u0 us
   show wpAny _ _ (newList us) _ _ _
   have I1:Inv X pins σ H {s with heap:=h',toks:=t'}:=I.kept hk
   have hlen:=rs.length
   rw [YR] at hz
   refine wpAny_newObj_type ?_ (by show us.toArray.size≤sizeLine; rw [YL]; omega)
   have hf:H h'.objs.size=none:=I1.hok.fresh (YD _)
   have I2:Inv X pins σ (upd H h'.objs.size (.lst xs)) {s with heap:=h'.push {cls:=.type "list",data:=.seq us.toArray},toks:=t'}:=
    I1.laid (t':=t') (fun b u e=>YA _ e) (YD _) ⟨by omega,us,0,rs,YJ _ rfl⟩
   exact h pins _ σ _ [x,.ref h'.objs.size] [u0,.ref h'.objs.size] Q I2 (.cons r0 (.cons rfl .nil)) (hw _ hf)
 rcases hq with hq | hq
 ·obtain⟨its,rv,pl,hz⟩:=I.list hq
  have hl:=rv.length
  rw [YR] at hl hz
  refine Yz (wpAny_holding (rU (I.ok.hd hc) pl.isList (by rw [YL]; omega) (by rw [YL]; omega) fun h' t' hk=>?_))
  have:=fin its h' t' rv (by rw [YR]; exact hz) hk
  simpa using this
 ·obtain⟨its,rv,ht,hz⟩:=I.tuple hq
  have hl:=rv.length
  rw [YR] at hl hz
  refine Yz (wpAny_holding (rS (I.ok.hd hc) ht (by rw [YL]; omega) (by rw [YL]; omega) fun h' t' hk=>?_))
  have:=fin its h' t' rv (by rw [YR]; exact hz) hk
  simpa using this
end
section
variable{X:Cx}{E:Value→Shared→Prop}
theorem PE.wish{e:Expr}{t:TE}(h:PE X.nox e t)(E:Value→Shared→Prop):PE (X.wish E) e t:=PE.nox (X:=X.wish E) h
theorem PG.wish{e:Expr}{t:TG}(h:PG X.nox e t)(E:Value→Shared→Prop):PG (X.wish E) e t:=fun pins s σ H v u Q I r hw=>
 YH (h pins s σ H v u Q (I.unwish.wish _) r hw) (fun _ _ ⟨σ',H',I',q⟩=>⟨σ',H',I'.unwish.wish _,q⟩) fun _ _ z=>False.elim z
theorem PI.wish{tg e:Expr}{t:TI}(h:PI X.nox tg e t)(E:Value→Shared→Prop):PI (X.wish E) tg e t:=fun pins s σ H R I hw=>
 YH (h pins s σ H R (I.unwish.wish _) hw) (fun _ _ z=>YH z (fun _ _ ⟨it,fp,tn,J,H2,e,I2,T,st2,f2,r⟩=>⟨it,fp,tn,J,H2,e,I2.unwish.wish _,T,st2,f2,r⟩) fun _ _ z=>False.elim z) fun _ _ z=>False.elim z
theorem sJ{n:Nat}{N':List Str}{scope:Scope}{kx vx tg iter:Expr}{pos:Pos}{wi:TI}{g:ay TG}{tk tv:ay TE}(fr:cj X)(hc:X.calm=true)(S:aK n N' X.nox scope)(hi:PI X.nox tg iter wi)
  (hg:∀ cl C ex s H,PG (ak X.nox N' scope cl C ex s H) tg (g cl C ex s H)) (hk:∀ cl C ex s H,PE (ak X.nox N' scope cl C ex s H) kx (tk cl C ex s H)) (hv:∀ cl C ex s H,PE (ak X.nox N' scope cl C ex s H) vx (tv cl C ex s H))
  (hs:∀ x,foldedSetIterable iter X.env x=pure x:=by intro _; rfl):PE X.nox (.DictComp kx vx [⟨tg,iter,[],0⟩] scope pos) (rN n wi g tk tv):=by
 intro pins s σ H Q I h
 have S':aK n N' X scope:=⟨S.kind,S.names,S.cell,S.free,S.nd,S.len,S.look⟩
 refine YH (qo (X:=X) (E0:=fun _ _ _=>False) fr hc S' (hi.wish _) (fun cl C ex s H=>PG.wish (X:=ak X N' scope cl C ex s H) (hg cl C ex s H) _) (fun cl C ex s H=>PE.wish (X:=ak X N' scope cl C ex s H) (hk cl C ex s H) _) (fun cl C ex s H=>PE.wish (X:=ak X N' scope cl C ex s H) (hv cl C ex s H) _) hs pins s σ H Q (I.unwish.wish _) h)
  (fun _ _ ⟨v,H',I',r,q⟩=>⟨v,H',I'.unwish.wish _,r,q⟩) fun e s z=>?_
 obtain⟨a,L,cls,dx,σ',H',fl,S,env0,rest,h1,h2,h3,h4,h5,h6,h7,h8,hE⟩:=z
 exact hE
end
theorem jc{K:Type}[DecidableEq K]:∀ (more kvs:List (K×Value)),((kvs++more).map (·.1)).Nodup→merged kvs more=kvs++more
 | [],kvs,_=>by rw [XT]; rfl
 | kv::r,kvs,h=>by
  have h0:¬ kv.1∈kvs.map (·.1):=by
   rw [Y1,Y9] at h
   intro hm
   exact(List.nodup_append.mp h).2.2 _ hm _ YX rfl
  have e:stored kvs kv.1 kv.2=kvs++[kv]:=by
   unfold stored
   rw [if_neg]
   intro hs
   obtain⟨x,hx,e⟩:=List.any_eq_true.mp hs
   exact h0 (XR.mpr ⟨x,hx,of_decide_eq_true e⟩)
  show merged (stored kvs kv.1 kv.2) r=_
  rw [e,jc r (kvs++[kv]) (by simpa using h)]
  simp
section
variable{P:Program}{w:World}{A:Around}{E:Value→Shared→Prop}{s:Shared}
theorem oH{Q:Value→Shared→Prop}{d:Addr}{kvs:List (Key×Value)}(hs:(d==sysModules)=false)(hm:s.heap.DictOf (aE P w) d kvs)(hsz:kvs.length≤sizeLine)
  (h:∀ h',h'.DictOf (aE P w) s.heap.objs.size kvs→(∀ b o,s.heap.get? b=some o→h'.get? b=some o)→Q (.ref s.heap.objs.size) {s with heap:=h'}):wpAny (model P w) A (call (.type "dict") [.ref d]) Q E s:=by
 have hlt:d<s.heap.objs.size:=by obtain⟨o,_,_,ho,_⟩:=hm; exact YF ho
 refine callType_codes (Q₁:=fun obj s₁=>obj=.ref s.heap.objs.size∧s₁={s with heap:=s.heap.push {cls:=.type "dict",data:=.dict #[]}}) F.kt_called_dict (F.kt_typeCall_dict_1 _) F.entry_dict_init (kt_code_dict_new _ ⟨rfl,rfl⟩) ?_
 rintro obj s₁ ⟨rfl,rfl⟩
 have hnew:(s.heap.push {cls:=.type "dict",data:=.dict #[]}).DictOf (aE P w) s.heap.objs.size []:=Heap.DictOf.new s.heap
 have hold:(s.heap.push {cls:=.type "dict",data:=.dict #[]}).DictOf (aE P w) d kvs:=hm.push _
 refine⟨hnew.typeIs,F.args_dict_init_2 _ _,?_⟩
 unfold Builtin.«dict.__init__»
 refine Yz ?_
 unfold Builtin.Dict.selfAndRest
 refine Yz (wpAny_notOrdered_dict hnew.typeIs ?_)
 show wpAny _ _ (pure (s.heap.objs.size,[Value.ref d])) _ _ _
 refine YB ?_
 show wpAny _ _ (Builtin.Dict.updateFrom "dict.__init__" s.heap.objs.size (.ref d) [] .none) _ _ _
 unfold Builtin.Dict.updateFrom
 refine Yz (wpAny_typeOf hold.typeIs ?_)
 rw [if_neg (by decide)]
 refine Yz ?_
 unfold Builtin.Dict.merge
 refine Yz ?_
 unfold Builtin.Dict.readDirectly
 refine Yz (wpAny_isInstance hold.typeIs isSubtype_dict_dict ?_)
 simp only [Bool.not_true,XF,if_false]
 refine Yz (wpAny_specialOf hold.typeIs F.slot_dict_iter.lookup (YB ?_))
 simp only [beq_self_eq_true,if_true]
 refine Yz (YB ?_)
 refine wpAny_mergeDict (knd:=aE P w) (X3 hlt) hs hnew hold (fun h' hd' _ sb=>?_) (by simpa using hsz)
 have hn:(kvs.map (·.1)).Nodup:=by obtain⟨_,_,_,_,_,_,_,_,hn⟩:=hm; exact hn
 rw [jc kvs [] (by simpa using hn),List.nil_append] at hd'
 show wpAny _ _ (Builtin.Dict.addKeywords s.heap.objs.size []>>=_) _ _ _
 unfold Builtin.Dict.addKeywords
 refine Yz (YB ?_)
 exact YB ⟨rfl,h h' hd' fun b o e=>(sb.2 b (YT (YF e))).trans (YA _ e)⟩
end
inductive rCall_dictDI(xs:List V)(H:Hp)(Q:VK):Prop | mk (a kvs) (_:xs=[.ref a]) (_:H a=some (.dK kvs)) (_:∀ d,H d=none→Q (.ref d) (upd H d (.dK kvs)))
theorem oJ{X:Cx}:bZ X (.type "dict") rCall_dictDI:=by
 intro pins s σ H xs us Q I r h
 obtain⟨a,kvs,rfl,e,q⟩:=h
 obtain⟨u,rfl,rx⟩:=dj r
 cases rx
 obtain⟨hl,hs,vs,kv,hm⟩:=(show aM X.prog X.w H s.heap a (.dK kvs) from I.hok a _ e)
 have hlen:vs.length=kvs.length:=(Paired.length kv).symm
 refine oH hs hm (by rw [hlen]; exact hl) fun h' hd' kp=>?_
 have hfr:H s.heap.objs.size=none:=I.hok.fresh (YD _)
 refine⟨.ref s.heap.objs.size,_,I.laid (t':=s.toks) kp (YD _) (show aM X.prog X.w _ h' _ (.dK kvs) from ⟨hl,?_,vs,kv,hd'⟩),rfl,q _ hfr⟩
 have hb:=I.big
 exact beq_false_of_ne (X3 hb)
end L2
namespace L2
open PySem PySem.Spec PyProof.Rows PySem.Builtin.Str
section
variable{X:Cx}
end
end L2
namespace L2
open PySem PySem.Spec PyProof.Rows
section
variable{P:Program}{w:World}{A:Around}{E:Value→Shared→Prop}{s:Shared}{It1 It2:Nat→Heap→Prop}{z TI TO i1 i2 l1 l2:Addr}{xs ys:Array Value}{k:Nat}{x y a b:Value}
theorem uZ(hi:∀ k h,It1 k h→i1<h.objs.size)(hi':∀ k h,It2 k h→i2<h.objs.size){Q:Option Value→Shared→Prop}(D:ZipApart z TI TO i1 i2 l1 l2)(F1:re P w i1 l1 xs It1)(F2:re P w i2 l2 ys It2)
  (hz:ZAt s.heap z TI TO .none false) (hTI:IsPair s.heap TI (.ref i1) (.ref i2)) (hTO:IsPair s.heap TO a b) (h1:It1 k s.heap) (h2:It2 k s.heap) (hx:xs[k]? = some x) (hy:ys[k]? = some y)
  (hQ:∀ h',ZAt h' z TI TO (rawInt (s.heap.objs.size:Int)) false→IsPair h' TI (.ref i1) (.ref i2)→(∃ a b,IsPair h' TO a b)→It1 (k+1) h'→It2 (k+1) h'→IsPair h' s.heap.objs.size x y→(∀ c o,c≠z→c≠TO→c≠i1→c≠i2→s.heap.get? c=some o→h'.get? c=some o)→Q (some (.ref s.heap.objs.size)) {s with heap:=h'}) :
  wpAny (model P w) A (pyNext (.ref z)) Q E s:=by
 have hT:s.TypeIs (.ref z) "zip":=⟨_,hz,rfl⟩
 have hzl:=YF hz
 have hTOl:=YF hTO
 have hi1l:=hi _ _ h1
 have hi2l:=hi' _ _ h2
 unfold pyNext
 refine Yz (wpAny_attempt (wpAny_callSpecial?_slot (name:=Str.ofString "__next__") hT F.slot_zip_next (wpAny_call_entry F.slot_zip_next hT F.entry_zip_next ?_ (F.args_zip_next_1 _))))
 show wpAny _ _ (field (.ref z) 2>>=_) _ _ _
 refine Yz (wpAny_field hz rfl (x:=.bool false) rfl ?_)
 show wpAny _ _ (field (.ref z) 3>>=_) _ _ _
 refine Yz (wpAny_field hz rfl (x:=.ref TI) rfl (Yz (wpAny_seqItems hTI rfl ?_)))
 show wpAny _ _ (Builtin.SmallTypes.ownedTupleIsFree (.ref z)>>=_) _ _ _
 refine Yz ?_
 unfold Builtin.SmallTypes.ownedTupleIsFree
 refine Yz (wpAny_field hz rfl (x:=.none) rfl (YB ?_))
 simp only [if_true]
 refine Yz (wpAny_rule ?_)
 refine Yz (wpAny_field hz rfl (x:=.ref TO) rfl ?_)
 refine Yz (wpAny_setField_rec hz (by simp) fun h₁ hz₁ hs₁=>?_)
 replace hz₁:ZAt h₁ z TI TO .ellipsis false:=hz₁
 refine Yz ?_
 simp only [List.zipIdx_cons,List.zipIdx_nil,List.forIn_cons,List.forIn_nil]
 have kp1:∀ c o,c≠z→s.heap.get? c=some o→h₁.get? c=some o:=fun c o hc e=>hs₁.extBut c o hc e
 have a1:It1 k h₁:=F1.keep _ _ _ h1 fun b hb o e=>kp1 b o (by rcases hb with rfl | rfl; exact D.i1z; exact D.l1z) e
 have b1:It2 k h₁:=F2.keep _ _ _ h2 fun b hb o e=>kp1 b o (by rcases hb with rfl | rfl; exact D.i2z; exact D.l2z) e
 refine Yz (Yz (wpAny_onRaise ?_))
 show wpAny _ _ (Builtin.SmallTypes.nextOf (.ref i1)>>=_) _ _ _
 refine Yz (F1.item _ {s with heap:=h₁} k x _ _ a1 hx fun h₂ a2 hs₂=>YB ?_)
 have hTO₂:IsPair h₂ TO a b:=hs₂.extBut _ _ D.TOi1 (kp1 _ _ D.TOz hTO)
 refine Yz (wpAny_seqItems hTO₂ rfl ?_)
 refine Yz (wpAny_updateSeq_pair hTO₂ fun h₃ hTO₃ hs₃=>?_)
 replace hTO₃:IsPair h₃ TO x b:=hTO₃
 refine Yz (wpAny_letGo (YB ?_))
 have b3:It2 k h₃:=F2.keep _ _ _ b1 fun c hc o e=>hs₃.extBut c o (by rcases hc with rfl | rfl; exact D.TOi2.symm; exact D.l2TO) (hs₂.extBut c o (by rcases hc with rfl | rfl; exact D.i12.symm; exact D.l2i1) e)
 have a3:It1 (k+1) h₃:=F1.keep _ _ _ a2 fun c hc o e=>hs₃.extBut c o (by rcases hc with rfl | rfl; exact D.TOi1.symm; exact D.l1TO) e
 refine Yz (Yz (wpAny_onRaise ?_))
 show wpAny _ _ (Builtin.SmallTypes.nextOf (.ref i2)>>=_) _ _ _
 refine Yz (F2.item _ {s with heap:=h₃} k y _ _ b3 hy fun h₄ b4 hs₄=>YB ?_)
 have hTO₄:IsPair h₄ TO x b:=hs₄.extBut _ _ D.TOi2 hTO₃
 refine Yz (wpAny_seqItems hTO₄ rfl ?_)
 refine Yz (wpAny_updateSeq_pair hTO₄ fun h₅ hTO₅ hs₅=>?_)
 replace hTO₅:IsPair h₅ TO x y:=hTO₅
 refine Yz (wpAny_letGo (YB (YB ?_)))
 refine Yz (wpAny_seqItems hTO₅ rfl ?_)
 refine Yz (wpAny_newTuple ?_)
 have hsz:h₅.objs.size=s.heap.objs.size:=by rw [hs₅.1,hs₄.1,hs₃.1,hs₂.1,hs₁.1]
 have hz₅:ZAt h₅ z TI TO .ellipsis false:=hs₅.extBut _ _ D.TOz.symm (hs₄.extBut _ _ D.i2z.symm (hs₃.extBut _ _ D.TOz.symm (hs₂.extBut _ _ D.i1z.symm hz₁)))
 have hk₅:∀ c o,c≠z→c≠TO→c≠i1→c≠i2→s.heap.get? c=some o→h₅.get? c=some o:=fun c o c1 c2 c3 c4 e=>
  hs₅.extBut _ _ c2 (hs₄.extBut _ _ c4 (hs₃.extBut _ _ c2 (hs₂.extBut _ _ c3 (kp1 _ _ c1 e))))
 have a5:It1 (k+1) h₅:=F1.keep _ _ _ a3 fun c hc o e=>hs₅.extBut c o (by rcases hc with rfl | rfl; exact D.TOi1.symm; exact D.l1TO) (hs₄.extBut c o (by rcases hc with rfl | rfl; exact D.i12; exact D.l1i2) e)
 have b5:It2 (k+1) h₅:=F2.keep _ _ _ b4 fun c hc o e=>hs₅.extBut c o (by rcases hc with rfl | rfl; exact D.TOi2.symm; exact D.l2TO) e
 show wpAny _ _ (Builtin.SmallTypes.ownedTupleHandOut (.ref z) (.ref h₅.objs.size)>>=_) _ _ _
 refine Yz ?_
 unfold Builtin.SmallTypes.ownedTupleHandOut
 have hz₆:ZAt (h₅.push {cls:=.type "tuple",data:=.seq #[x,y]}) z TI TO .ellipsis false:=YA _ hz₅
 refine Yz (wpAny_setField_rec hz₆ (by simp) fun h₇ hz₇ hs₇=>?_)
 replace hz₇:ZAt h₇ z TI TO (rawInt h₅.objs.size) false:=hz₇
 refine wpAny_setField_rec hz₇ (by simp) fun h₈ hz₈ hs₈=>?_
 replace hz₈:ZAt h₈ z TI TO (rawInt h₅.objs.size) false:=hz₈
 have up:∀ c o,c≠z→h₅.get? c=some o→h₈.get? c=some o:=fun c o c1 e=>hs₈.extBut _ _ c1 (hs₇.extBut _ _ c1 (YA _ e))
 have hT₈:IsPair h₈ h₅.objs.size x y:=hs₈.extBut _ _ (by rw [hsz]; exact X3 hzl) (hs₇.extBut _ _ (by rw [hsz]; exact X3 hzl) (YJ _ rfl))
 rw [hsz] at hz₈ hT₈
 refine YB ⟨_,rfl,?_⟩
 show wpAny _ _ (pure (some (Value.ref h₅.objs.size))) _ _ _
 rw [hsz]
 refine YB (hQ h₈ hz₈ (up _ _ D.TIz (hk₅ _ _ D.TIz D.TITO D.TIi1 D.TIi2 hTI)) ⟨_,_,up _ _ D.TOz hTO₅⟩ (F1.keep _ _ _ a5 fun c hc o e=>up c o (by rcases hc with rfl | rfl; exact D.i1z; exact D.l1z) e) (F2.keep _ _ _ b5 fun c hc o e=>up c o (by rcases hc with rfl | rfl; exact D.i2z; exact D.l2z) e) hT₈ fun c o c1 c2 c3 c4 e=>up c o c1 (hk₅ c o c1 c2 c3 c4 e))
end
section
variable{X:Cx}{elts:List Expr}{k:Nat}{tpos:Pos}
end
section
variable{X:Cx}{pins:List (Addr×Obj)}{σ:St}{H:Hp}{s:Shared}
end
section
variable{X:Cx}{tg:Expr}
end
end L2
namespace L2
open PySem PySem.Spec PyProof.Rows PySem.Builtin.Str
section
variable{P:Program}{w:World}{A:Around}{E:Value→Shared→Prop}{s:Shared}
end
section
variable{X:Cx}
end
end L2
set_option maxHeartbeats 4000000
namespace L2
open PySem PySem.Spec PyProof.Rows
section
variable{X:Cx}{elts:List Expr}{k:Nat}{tpos:Pos}
end
end L2
set_option maxHeartbeats 1000000
namespace L2
open PySem PySem.Spec PyProof.Rows
inductive rGetL(K:WB)(x y:V)(H:Hp)(Q:VK):Prop | mk (p xs i v) (_:x=.ref p) (_:y=.int i) (_:0≤i) (_:SqL K H p xs) (_:atI xs i=some v) (_:Q v H)
theorem uv{X:Cx}:zB X (rGetL X.K):=by
 intro pins s σ H x y v u Q I rx ry h
 obtain⟨p,xs,i,z,rfl,rfl,h0,hq,he,q⟩:=h
 cases rx
 obtain⟨t,rfl⟩:=ry
 obtain⟨its,r,pl,hz⟩:=I.list hq
 obtain⟨j,h1,h2,h3,h4,h5⟩:=iI he
 obtain⟨w,ew,rw'⟩:=r.get h2
 have hn:=gc
 have hl:=r.length
 have hj:i.toNat=j:=by
  rw [seqIndex_of h0 h5] at h1
  exact Option.some.inj h1
 exact wpAny_getItem_list pl.isList h0 (by omega) (by rw [hj]; simpa using ew) ⟨z,H,I,rw',q⟩
end L2
set_option maxHeartbeats 4000000
namespace L2
open PySem PySem.Spec PyProof.Rows
section
variable{X:Cx}{pins:List (Addr×Obj)}{σ:St}{H:Hp}{s:Shared}
theorem Inv.retell{a:Addr}{o u:HO}(I:Inv X pins σ H s)(e:H a=some o)(nt:∀ xs,o≠.tup xs)(no:∀ y,o≠.own y)(ntb:∀ ps,o≠.tbl ps)(nf:∀ ob v,X.H₀ a≠some (.frz ob v))(ok:aM X.prog X.w (upd H a u) s.heap a u):Inv X pins σ (upd H a u) s:=by
 have nn:∀ b,H b=none→b≠a:=fun b q=>Ne.symm (af e q)
 have nu:∀ b v,H b=some v→o≠v→b≠a:=fun b v q n z=>by rw [z,e] at q; exact n (Option.some.inj q)
 refine⟨I.ok,I.os,I.bare,⟨I.base.keep,I.base.slot,fun b o q n hx=>?_,I.base.there,fun b xs q=>?_,fun b o xs q=>?_,fun b ps q=>?_⟩,I.loc,I.cell,?_,fun x c hc=>?_,fun p hp=>?_,fun b v q=>?_,I.len⟩
 ·have:=I.base.free b o q n hx
  rw [ae (nn b this)]; exact this
 ·have:=I.base.tups b xs q
  rw [ae (nu b _ this (nt xs))]; exact this
 ·rw [ae (fun z=>nf o xs (by rw [← z]; exact q))]; exact I.base.frzs b o xs q
 ·obtain⟨m,z⟩:=I.base.tbls b ps q
  exact⟨m,by rw [ae (nu b _ z (ntb _))]; exact z⟩
 ·rw [ae (nn _ I.free)]; exact I.free
 ·rw [ae (nn _ (I.freeC x c hc))]; exact I.freeC x c hc
 ·obtain⟨e1,n,r⟩:=I.pin p hp
  exact⟨e1,by rw [ae (nn _ n)]; exact n,r⟩
 ·by_cases hb:b=a
  ·subst hb
   rw [aa] at q; cases q
   exact ok
  ·rw [ae hb] at q
   exact(I.hok b v q).stay (fun _ _ _ z=>z) (fun c z=>by rw [ae (nu c _ z (no _))]; exact z) fun c xs z=>by rw [ae (nu c _ z (nt _))]; exact z
theorem Inv.freeze{a:Addr}{kvs:List (Key×V)}(I:Inv X pins σ H s)(e:H a=some (.dK kvs)):∃ ob,Inv X pins σ (upd H a (.frz ob (.dK kvs))) s∧∀ ob v,X.H₀ a≠some (.frz ob v):=by
 have nf:∀ ob v,X.H₀ a≠some (.frz ob v):=fun ob v z=>by have:=I.base.frzs a ob v z; rw [e] at this; cases this
 have ok:=I.hok a _ e
 obtain⟨z,y,vs,r,ob,es,ep,g,c⟩:=ok
 exact⟨ob,I.retell e (fun _ z=>nomatch z) (fun _ z=>nomatch z) (fun _ z=>nomatch z) nf ⟨g,z,y,vs,r,ob,es,ep,g,c⟩,nf⟩
theorem Inv.thaw{a:Addr}{ob:Obj}{kvs:List (Key×V)}(I:Inv X pins σ H s)(e:H a=some (.frz ob (.dK kvs)))(nf:∀ ob v,X.H₀ a≠some (.frz ob v)):Inv X pins σ (upd H a (.dK kvs)) s:=by
 obtain⟨g,z,y,vs,r⟩:=I.hok a _ e
 exact I.retell e (fun _ z=>nomatch z) (fun _ z=>nomatch z) (fun _ z=>nomatch z) nf ⟨z,y,vs,r⟩
inductive sFrz(t:TS)(D:gO)(σ:St)(H:Hp):Prop | mk (a kvs) (_:H a=some (.dK kvs)) (_:∀ ob,t {nx:=fun σ' H'=>H' a=some (.frz ob (.dK kvs))∧D.nx σ' (upd H' a (.dK kvs)),rt:=fun _ _=>False} σ (upd H a (.frz ob (.dK kvs))))
theorem xE{st:Stmt}{t:TS}(h:PS X st t):PS X st (sFrz t):=by
 intro pins s σ H D I ⟨a,kvs,e,q⟩
 obtain⟨ob,I1,nf⟩:=I.freeze e
 refine thn (h pins s σ _ _ I1 (q ob)) fun f s' hf=>?_
 cases f with
 | next=>obtain⟨σ',H',I',e',q'⟩:=hf; exact⟨σ',_,I'.thaw e' nf,q'⟩
 | brk=>obtain⟨_,_,_,z⟩:=hf; exact z.elim
 | cont=>obtain⟨_,_,_,z⟩:=hf; exact z.elim
 | ret u=>obtain⟨_,_,_,_,_,z⟩:=hf; exact z.elim
def Itd(a:Addr)(ob:Obj):It:=
 ⟨fun i H=>∃ kvs,H a=some (.frz ob (.dK kvs))∧i<kvs.length,fun i H x H'=>H'=H∧∀ kvs,H a=some (.frz ob (.dK kvs))→∃ kv,kvs[i]? = some kv∧x=kV kv.1,fun i H=>∃ kvs,H a=some (.frz ob (.dK kvs))∧kvs.length=i⟩
theorem pJ{a:Addr}{ob:Obj}{kvs:List (Key×V)}{es:Array DictEntry}{ep:Nat}(I:Inv X pins σ H s)(e:H a=some (.frz ob (.dK kvs)))(hd:ob.data=.dict es ep):Raw s.heap a es ep∧es.size=kvs.length∧∀ i (h:i<es.size),∃ kv,kvs[i]? = some kv∧ar (kV kv.1) es[i].key:=by
 obtain⟨g,z,y,vs,r,o,es',ep',g',ex,d,_,pr,_⟩:=I.hok a _ e
 rw [g] at g'; cases g'
 rw [hd] at d; cases d
 have l1:=pr.length
 have l2:=r.length
 rw [XV] at l1
 refine⟨⟨ob,g,ex,hd⟩,by omega,fun i h=>?_⟩
 have hv:i<vs.length:=by omega
 have hk:i<kvs.length:=by omega
 obtain⟨p1,_⟩:=pr.get? (i:=i) (e:=es[i]) (k:=vs[i].1) (v:=vs[i].2) (by simp [h]) (by simp [hv])
 refine⟨kvs[i],by simp [hk],?_⟩
 have e1:kvs[i].1=vs[i].1:=by
  have:=KV.keys r
  have:=congrArg (fun l=>l[i]?) this
  simpa [hk,hv] using this
 rw [e1]
 have p1:iu vs[i].1 es[i].key=true:=p1
 rcases aY p1 with ⟨j,t,q1,q2⟩ | ⟨x,t,q1,q2⟩
 ·rw [q1,q2]; exact⟨t,rfl⟩
 ·rw [q1,q2]; exact⟨t,rfl⟩
theorem qc{P:Program}{w:World}{K:WB}{tg:Expr}(a it:Addr)(ob:Obj){es:Array DictEntry}{ep:Nat}(hd:ob.data=.dict es ep):jt P w K tg (Itd a ob) [it] it (fun i h=>h.IsKeyIter it a i es.size ep) where
 mem:=by simp
 obj:=fun i h st b hb=>by
  have e:b=it:=by simpa using hb
  subst e
  obtain⟨o,e,c,d⟩:=st
  exact⟨o,e,fun v z=>by rw [d] at z; cases z⟩
 keep:=fun i h h' st k=>st.at fun o e=>k it (by simp) o e
 item:=by
  intro X hP hw hK hc i pins s σ H E I hf st hg
  subst hP hw hK
  obtain⟨kvs,hq,hi⟩:=hg
  obtain⟨raw,hz,hr⟩:=pJ I hq hd
  obtain⟨f0,f1,f2,f3,f4,f5⟩:=hf it (by simp)
  have hi':i<es.size:=by omega
  refine ss st raw hi' fun h' st' sb=>?_
  have I1:Inv X pins σ H {s with heap:=h'}:=I.turned (t':=s.toks) (fun b o hb e=>(sb.2 b hb).trans e) f0 f1 f3 f4 f5
  obtain⟨kv,e1,e2⟩:=hr i hi'
  refine⟨_,rfl,letGo_keyiter (s':={s with heap:=h'}) st' ⟨kV kv.1,H,I1,e2,⟨rfl,fun kvs' hy=>?_⟩,st',fun b hb=>(hf b hb).1⟩⟩
  rw [hq] at hy; cases hy
  exact⟨kv,e1,rfl⟩
 done:=by
  intro X hP hw hK hc i pins s σ H E I hf st hg
  subst hP hw hK
  obtain⟨kvs,hq,hi⟩:=hg
  obtain⟨raw,hz,hr⟩:=pJ I hq hd
  obtain⟨f0,f1,f2,f3,f4,f5⟩:=hf it (by simp)
  have hi':i=es.size:=by omega
  subst hi'
  exact vk (I.ok.hd hc) st raw fun h' eb=>⟨rfl,I.turned (t':=s.toks) (fun b o hb e=>eb b o hb e) f0 f1 f3 f4 f5⟩
 self:=fun _ _ _ _ _ st h=>wpAny_pyIter_keyiter st h
inductive iKeysI(R:It→Hp→Prop)(x:V)(H1:Hp):Prop | mk (a ob kvs) (_:x=.ref a) (_:H1 a=some (.frz ob (.dK kvs))) (_:R (Itd a ob) H1)
def zt(tl:TE):TI:=fun σ H R=>tl σ H (iKeysI R)
theorem vA{tg l:Expr}{tl:TE}(hl:PE X l tl):PI X tg l (zt tl):=by
 intro pins s σ H R I h
 refine thn (hl pins s σ H _ I h) fun v s1 ⟨x,H1,I1,r1,q1⟩=>?_
 obtain⟨a,ob,kvs,e,hq,q⟩:=q1
 subst e
 cases r1
 obtain⟨g,z,y,vs,r,o,es,ep,g',ex,d,_⟩:=I1.hok a _ hq
 have : o=ob:=by rw [g] at g'; exact(Option.some.inj g').symm
 subst this
 refine sr y ⟨o,g,ex,d⟩ ?_
 refine⟨s1.heap.objs.size,[s1.heap.objs.size],_,_,H1,rfl,I1.kept (t':=s1.toks) fun b o e=>YA _ e,qc a _ o d,⟨_,YJ _ rfl,rfl,rfl⟩,fun b hb=>?_,q⟩
 have e:b=s1.heap.objs.size:=by simpa using hb
 subst e
 exact I1.fpOk (YD _) (I1.hok.fresh (YD _))
end
section
variable{X:Cx}{n:Nat}{N':List Str}{scope:Scope}{elt cnd tg iter:Expr}{pos:Pos}
theorem PT.wish{e:Expr}{t:TT}(h:PT X.nox e t)(E:Value→Shared→Prop):PT (X.wish E) e t:=PT.nox (X:=X.wish E) h
theorem io{wi:TI}{g:ay TG}{tc:ay TT}{te:ay TE}{i:Nat}{x:Str}{pos' spos:Pos}(hN:X.N.Nodup)(hi0:X.N[i]? = some x)(hx:Loc X.env.scope x)
  (hsw:swapsWith (.ListComp elt [⟨tg,iter,[cnd],0⟩] scope pos) (some (.Name x pos')) spos.line X.env=pure true)
  (fr:cj X) (hc:X.calm=true) (S:aK n N' X.nox scope) (hi:PI X.nox tg iter wi)
  (hg:∀ cl C ex s H,PG (ak X.nox N' scope cl C ex s H) tg (g cl C ex s H)) (hcn:∀ cl C ex s H,PT (ak X.nox N' scope cl C ex s H) cnd (tc cl C ex s H)) (he:∀ cl C ex s H,PE (ak X.nox N' scope cl C ex s H) elt (te cl C ex s H))
  (hs:∀ x,foldedSetIterable iter X.env x=pure x:=by intro _; rfl) (hf:X.fn x=true∨X.env.scope.names.lookup x=some .local:=by first | exact .inl rfl | exact .inr rfl | assumption) :
  PS X.nox (.Assign [.Name x pos'] (.ListComp elt [⟨tg,iter,[cnd],0⟩] scope pos) spos) (rQ (rM n wi g tc te) (du i)):=by
 intro pins s σ H D I h
 have S':aK n N' X scope:=⟨S.kind,S.names,S.cell,S.free,S.nd,S.len,S.look⟩
 refine YH (lN (X:=X) (E0:=fun _ _ _=>False) hN hi0 hx hsw fr hc S' (hi.wish _) (fun cl C ex s H=>PG.wish (X:=ak X N' scope cl C ex s H) (hg cl C ex s H) _) (fun cl C ex s H=>PT.wish (X:=ak X N' scope cl C ex s H) (hcn cl C ex s H) _) (fun cl C ex s H=>PE.wish (X:=ak X N' scope cl C ex s H) (he cl C ex s H) _) hs hf pins s σ H D (I.unwish.wish _) h)
  (fun f s' z=>?_) fun e s z=>?_
 ·have:=z.unwish
  cases f with
  | next=>obtain⟨σ',H',I,q⟩:=this; exact⟨σ',H',I.wish _,q⟩
  | brk=>obtain⟨σ',H',I,q⟩:=this; exact⟨σ',H',I.wish _,q⟩
  | cont=>obtain⟨σ',H',I,q⟩:=this; exact⟨σ',H',I.wish _,q⟩
  | ret u=>obtain⟨v,σ',H',I,r,q⟩:=this; exact⟨v,σ',H',I.wish _,r,q⟩
 ·obtain⟨a,L,cls,dx,σ',H',fl,S,env0,rest,h1,h2,h3,h4,h5,h6,h7,h8,hE⟩:=z
  exact hE
end
end L2
set_option maxHeartbeats 1000000
namespace L2
open PySem PySem.Spec PyProof.Rows
section
variable{X:Cx}
def kX:Value→Bool
 | .none=>true
 | _=>false
def Thg(K:WB)(H:Hp)(v:V):Prop:=v=.non∨(∃ x,v=.str x)∨∃ a xs,v=.ref a∧SqT K H a xs
theorem mV{K:WB}{H:Hp}:∀ {xs:List V} {us:List Value},ax xs us→(∀ v∈xs,Thg K H v)→us.any kX=xs.any fun v=>decide (v=.non)
 | _,_,.nil,_=>rfl
 | v::xs,u::us,.cons r t,f=>by
  rw [XW,XW,mV t fun y hy=>f y (Y0 _ hy)]
  congr 1
  rcases f v YX with rfl | ⟨x,rfl⟩ | ⟨a,ys,rfl,_⟩
  ·cases r; rfl
  ·obtain⟨_,rfl⟩:=r; rfl
  ·cases r; rfl
theorem mw:∀ {xs:List V} {us:List Value} {u:Value},ax xs us→u∈us→∃ v∈xs,ar v u
 | _,_,_,.nil,h=>by cases h
 | _,_,_,.cons r t,h=>by
  rcases YM.mp h with rfl | h
  ·exact⟨_,YX,r⟩
  ·obtain⟨v,hv,q⟩:=mw t h
   exact⟨v,Y0 _ hv,q⟩
inductive rOp_nonInI(K:WB)(x y:V)(H:Hp)(Q:VK):Prop | mk (p xs) (_:x=.non) (_:y=.ref p) (_:SqL K H p xs) (_:(∀ v∈xs,Thg K H v)) (_:Q (.bl (xs.any fun v=>decide (v=.non))) H)
theorem lU(hu:X.A.units+1<cLine):OpR X (compareOp .In) (rOp_nonInI X.K):=by
 intro pins s σ H x y v u Q I rx ry h
 obtain⟨p,xs,rfl,rfl,hq,ht,q⟩:=h
 cases rx
 cases ry
 obtain⟨its,r,pl,hz⟩:=I.list hq
 refine SeqAt.in_listAt kX pl.isList (fun w hw=>?_) ⟨.bl _,H,I,rfl,?_⟩
 ·obtain⟨v,hv,rv⟩:=mw r (by simpa using hw)
  rcases ht v hv with rfl | ⟨x,rfl⟩ | ⟨a,ys,rfl,hs⟩
  ·cases rv; exact SeqAt.EqAt.same _
  ·obtain⟨t,rfl⟩:=rv; exact SeqAt.EqAt.str_none x t
  ·cases rv
   obtain⟨jts,_,pt,_⟩:=I.tuple hs
   exact SeqAt.EqAt.tuple_none (show s.heap.IsTuple a jts.toArray from pt) hu
 ·rw [show its.toArray.any kX=its.any kX by simp,mV r ht]
  exact q
inductive rOp_neL0I(K:WB)(x y:V)(H:Hp)(Q:VK):Prop | mk (a b:Addr) (xs:List V) (_:x=.ref a) (_:y=.ref b) (_:SqL K H a xs) (_:SqL K H b []) (_:Q (.bl (!xs.isEmpty)) H)
theorem pB(hu:X.A.units<cLine):OpR X (compareOp .NotEq) (rOp_neL0I X.K):=by
 intro pins s σ H x y v u Q I rx ry h
 obtain⟨a,b,xs,rfl,rfl,ha,hb,q⟩:=h
 cases rx
 cases ry
 obtain⟨its,r1,p1,_⟩:=I.list ha
 obtain⟨jts,r2,p2,_⟩:=I.list hb
 cases r2
 cases r1 with
 | nil=>
  refine SeqAt.RcNeAt.lists (e:=fun _=>true) p1.isList p2.isList rfl hu (fun j h1 _=>absurd h1 (by simp)) X.prog X.w X.xe _ ⟨.bl false,H,I.tok _,?_,q⟩
  show Value.bool _=Value.bool false
  congr 1
 | cons r t=>
  exact SeqAt.RcNeAt.lists_lengths p1.isList p2.isList (by simp) hu X.prog X.w X.xe _ ⟨.bl true,H,I.tok _,rfl,q⟩
end
end L2
set_option maxHeartbeats 4000000
namespace L2
open PySem PySem.Spec PyProof.Rows
section
variable{prog:Program}{w:World}{A:Around}{E:Value→Shared→Prop}{h:Heap}{g:Array GenState}{d:Drawn}{t:Nat}{os:OsState}{C N fI:Addr}{bm bs:List Value}{nm q:Str}{hdct:Bool}{sn:List Str}{sub:List Value}{ab:Bool}{col:Option Bool}{dd:Option Addr}{k0 k1 k2 k3 k5:Option Value}{mN:Str→Option Value}{us:List Value}{oI:Obj}
end
end L2
namespace L2
open PySem PySem.Spec PyProof.Rows Builtin Builtin.ObjectAttr
section
variable{prog:Program}{w:World}{A:Around}{s:Shared}{K:WB}{x C:Addr}{ox:Obj}{n:Str}{v:Value}
end
end L2
set_option maxHeartbeats 8000000
namespace L2
open PySem PySem.Spec PyProof.Rows Builtin Builtin.ObjectAttr
section
variable{prog:Program}{w:World}{A:Around}{E:Value→Shared→Prop}{h:Heap}{g:Array GenState}{d:Drawn}{t:Nat}{os:OsState}{a C dx:Addr}{o:Obj}{K:WB}{n:Str}{v:Value}{mA:Str→Option Value}{cd:ClassData}
end
end L2
set_option maxHeartbeats 4000000
namespace L2
open PySem PySem.Spec PyProof.Rows
def del(H:Hp)(a:Addr):Hp:=fun b=>if b=a then none else H b
section
variable{X:Cx}{pins:List (Addr×Obj)}{σ:St}{H:Hp}{s:Shared}{o value:Expr}{ta tv:TE}{f:Str}{pos pos':Pos}
end
section
variable{X:Cx}{o:Expr}{ta:TE}{f:Str}{pos:Pos}
end
section
variable{P:Program}{w:World}{K:WB}{mg:Str→Option Value}{base:Heap}{N:List Str}{name qual:Str}{scope:Scope}{cl:List (Str×Addr)}{f c':Addr}{pm ctv:Value}{A:Around}{outer:List Env}{s:Shared}{H:Hp}{E:XK}{Q:VK}{σ:St}{body:Expr}{te:TE}{k:Nat}
end
end L2
set_option maxHeartbeats 1000000
namespace L2
open PySem PySem.Spec PyProof.Rows
def SqB(b:Bool)(K:WB)(H:Hp)(a:Addr)(xs:List V):Prop:=bif b then SqL K H a xs else SqT K H a xs
def ItB(b:Bool)(i l:Addr)(k:Nat)(h:Heap):Prop:=bif b then h.IsListIter i l k else h.IsTupleIter i l k
def IsB(b:Bool)(h:Heap)(l:Addr)(xs:Array Value):Prop:=bif b then h.IsList l xs else h.IsTuple l xs
theorem ow{P:Program}{w:World}(b:Bool)(i l:Addr)(xs:Array Value)(hne:l≠i):re P w i l xs fun k h=>ItB b i l k h∧IsB b h l xs:=by
 cases b
 ·exact uE i l xs hne
 ·exact qO i l xs hne
theorem ItB.obj{b:Bool}{i l:Addr}{k:Nat}{h:Heap}(z:ItB b i l k h):∃ o,h.get? i=some o∧∀ v,o.data≠.cell v:=by
 cases b <;> (obtain⟨o,e,_,d⟩:=z; exact⟨o,e,fun v z=>by rw [d] at z; cases z⟩)
theorem ItB.at{b:Bool}{i l:Addr}{k:Nat}{h h':Heap}(z:ItB b i l k h)(e:∀ o,h.get? i=some o→h'.get? i=some o):ItB b i l k h':=by
 cases b <;> (obtain⟨o,e1,r⟩:=z; exact⟨o,e o e1,r⟩)
theorem Inv.sqB{X:Cx}{pins:List (Addr×Obj)}{σ:St}{H:Hp}{s:Shared}{b:Bool}{a:Addr}{xs:List V}(I:Inv X pins σ H s)(h:SqB b X.K H a xs):∃ its:List Value,ax xs its∧IsB b s.heap a its.toArray:=by
 cases b
 ·obtain⟨its,r,p,_⟩:=I.tuple h; exact⟨its,r,p⟩
 ·obtain⟨its,r,p,_⟩:=I.list h; exact⟨its,r,p.isList⟩
theorem Inv.sqB_inj{X:Cx}{pins:List (Addr×Obj)}{σ:St}{H:Hp}{s:Shared}{b:Bool}{a:Addr}{xs ys:List V}(I:Inv X pins σ H s)(h:SqB b X.K H a xs)(h':SqB b X.K H a ys):xs=ys:=by
 cases b
 ·exact I.tuple_inj h h'
 ·exact I.list_inj h h'
theorem IsB.lt{b:Bool}{h:Heap}{l:Addr}{xs:Array Value}(z:IsB b h l xs):l<h.objs.size:=by
 cases b <;> (obtain⟨o,e,_⟩:=z; exact YF e)
def Itb(K:WB)(b1 b2:Bool)(a b:Addr):It:=
  ⟨fun i H=>∃ xs ys x y,SqB b1 K H a xs∧SqB b2 K H b ys∧xs[i]? = some x∧ys[i]? = some y,fun i H v H'=>∃ p x y,H p=none∧v=.ref p∧H'=upd H p (.tup [x,y])∧(∀ xs,SqB b1 K H a xs→xs[i]? = some x)∧∀ ys,SqB b2 K H b ys→ys[i]? = some y,
   fun i H=>∃ xs ys,SqB b1 K H a xs∧SqB b2 K H b ys∧xs.length≤i⟩
def Zbn(b1 b2:Bool)(z TI TO i1 i2 l1 l2:Addr)(i:Nat)(h:Heap):Prop:=ZAt h z TI TO .none false∧IsPair h TI (.ref i1) (.ref i2)∧(∃ a b,IsPair h TO a b)∧ItB b1 i1 l1 i h∧ItB b2 i2 l2 i h
theorem qa{P:Program}{w:World}{K:WB}{elts:List Expr}{k:Nat}{tpos:Pos}{b1 b2:Bool}{z TI TO i1 i2 l1 l2:Addr}(D:ZipApart z TI TO i1 i2 l1 l2):jt P w K (.Tuple elts k tpos) (Itb K b1 b2 l1 l2) [z,TI,TO,i1,i2] z (Zbn b1 b2 z TI TO i1 i2 l1 l2) where
 mem:=by simp
 obj:=fun i h st b hb=>by
  obtain⟨hz,hTI,⟨a,c,hTO⟩,h1,h2⟩:=st
  simp only [YM,XB,or_false] at hb
  rcases hb with rfl | rfl | rfl | rfl | rfl
  ·exact⟨_,hz,fun v z=>by cases z⟩
  ·exact⟨_,hTI,fun v z=>by cases z⟩
  ·exact⟨_,hTO,fun v z=>by cases z⟩
  ·exact h1.obj
  ·exact h2.obj
 keep:=fun i h h' st k=>by
  obtain⟨hz,hTI,⟨a,c,hTO⟩,h1,h2⟩:=st
  exact⟨k z (by simp) _ hz,k TI (by simp) _ hTI,⟨a,c,k TO (by simp) _ hTO⟩,h1.at (k i1 (by simp)),h2.at (k i2 (by simp))⟩
 item:=by
  intro X hP hw hK hc i pins s σ H E I hf st hg
  subst hP hw hK
  obtain⟨xs,ys,x,y,hq,hq2,hx,hy⟩:=hg
  obtain⟨its,rv,pl⟩:=I.sqB hq
  obtain⟨u,hu,ru⟩:=rv.get hx
  obtain⟨jts,rv2,pl2⟩:=I.sqB hq2
  obtain⟨u2,hu2,ru2⟩:=rv2.get hy
  obtain⟨hz,hTI,⟨a,c,hTO⟩,h1,h2⟩:=st
  have F1:=ow (P:=X.prog) (w:=X.w) b1 i1 l1 its.toArray D.l1i1
  have F2:=ow (P:=X.prog) (w:=X.w) b2 i2 l2 jts.toArray D.l2i2
  have lt1:=let ⟨_,e,_⟩:=h1.obj; YF e
  have lt2:=let ⟨_,e,_⟩:=h2.obj; YF e
  refine uZ (fun k h z=>let ⟨_,e,_⟩:=z.1.obj; YF e) (fun k h z=>let ⟨_,e,_⟩:=z.1.obj; YF e) D F1 F2 hz hTI hTO ⟨h1,pl⟩ ⟨h2,pl2⟩ (by simpa using hu) (by simpa using hu2) fun h' hz' hTI' hTO' a' b' hT hk=>⟨_,rfl,?_⟩
  refine wpAny_letOwnedTupleGo_zip (s:={s with heap:=h'}) (TI:=TI) (TO:=TO) hz' fun h3 hz3 sb3=>?_
  have k3:∀ b o,b∉[z,TI,TO,i1,i2]→s.heap.get? b=some o→h3.get? b=some o:=fun b o nb q=>(sb3.2 b (fun e=>nb (by simp [e]))).trans (hk b o (fun e=>nb (by simp [e])) (fun e=>nb (by simp [e])) (fun e=>nb (by simp [e])) (fun e=>nb (by simp [e])) q)
  have lo:∀ b∈[z,TI,TO,i1,i2],eG X pins H b:=fun b hb=>(hf b hb).loose
  have nF:∀ b∈[z,TI,TO,i1,i2],b∉frs X.stack:=fun b hb e=>by
   obtain⟨_,f1,f2,_⟩:=hf b hb
   exact(YM.mp (I.stkSub b e)).elim f1 f2
  have I3:Inv X pins σ H {s with heap:=h3,toks:=s.toks}:=I.fly (t':=s.toks) lo (fun b o q n _=>k3 b o n q) fun b o q hb=>⟨o.slots,k3 b o (fun e=>nF b e hb) q⟩
  have hn:H s.heap.objs.size=none:=I.hok.fresh (YD _)
  have lt5:∀ b∈[z,TI,TO,i1,i2],b≠s.heap.objs.size:=fun b hb=>by
   simp only [YM,XB,or_false] at hb
   rcases hb with rfl | rfl | rfl | rfl | rfl
   ·exact YT (YF hz)
   ·exact YT (YF hTI)
   ·exact YT (YF hTO)
   ·exact YT lt1
   ·exact YT lt2
  have hT3:h3.get? s.heap.objs.size=some {cls:=.type "tuple",data:=.seq #[u,u2]}:=(sb3.2 _ (Ne.symm (lt5 z (by simp)))).trans hT
  have lT:eG X pins H s.heap.objs.size:=I.loose (X8 (YD _))
  have hok:aM X.prog X.w (upd H s.heap.objs.size (.tup [x,y])) h3 s.heap.objs.size (.tup [x,y]):=⟨(by show 2≤sizeLine; decide),[u,u2],.cons ru (.cons ru2 .nil),⟨_,hT3,rfl,0,rfl⟩⟩
  have up:∀ b o,b≠z→h'.get? b=some o→h3.get? b=some o:=fun b o n e=>(sb3.2 b n).trans e
  obtain⟨a3,c3,hTO3⟩:=hTO'
  refine⟨.ref s.heap.objs.size,upd H s.heap.objs.size (.tup [x,y]),I3.trackO lT hok,rfl,⟨_,x,y,hn,rfl,rfl,fun zs hs=>by rw [I.sqB_inj hs hq]; exact hx,fun zs hs=>by rw [I.sqB_inj hs hq2]; exact hy⟩,⟨hz3,up _ _ D.TIz hTI',⟨a3,c3,up _ _ D.TOz hTO3⟩,a'.1.at fun o e=>up _ _ D.i1z e,b'.1.at fun o e=>up _ _ D.i2z e⟩,fun b hb=>?_⟩
  rw [ae (lt5 b hb)]; exact(hf b hb).1
 done:=by
  intro X hP hw hK hc i pins s σ H E I hf st hg
  subst hP hw hK
  obtain⟨xs,ys,hq,hq2,hx⟩:=hg
  obtain⟨its,rv,pl⟩:=I.sqB hq
  obtain⟨jts,rv2,pl2⟩:=I.sqB hq2
  obtain⟨hz,hTI,hTO,h1,h2⟩:=st
  have hl:=rv.length
  have F1:=ow (P:=X.prog) (w:=X.w) b1 i1 l1 its.toArray D.l1i1
  refine yO (It1:=fun k h=>ItB b1 i1 l1 k h∧IsB b1 h l1 its.toArray) (It2:=fun k h=>ItB b2 i2 l2 k h∧IsB b2 h l2 jts.toArray) (I.ok.hd hc) D F1 ⟨⟨_,_,hz,.inl rfl⟩,hTI,hTO,⟨h1,pl⟩,⟨h2,pl2⟩⟩ (by simp; omega) fun h' hk=>⟨rfl,?_⟩
  have lo:∀ b∈[z,TI,TO,i1,i2],eG X pins H b:=fun b hb=>(hf b hb).loose
  have nF:∀ b∈[z,TI,TO,i1,i2],b∉frs X.stack:=fun b hb e=>by
   obtain⟨_,f1,f2,_⟩:=hf b hb
   exact(YM.mp (I.stkSub b e)).elim f1 f2
  have k3:∀ b o,b∉[z,TI,TO,i1,i2]→s.heap.get? b=some o→h'.get? b=some o:=fun b o nb q=>hk b o (fun e=>nb (by simp [e])) (fun e=>nb (by simp [e])) (fun e=>nb (by simp [e])) (fun e=>nb (by simp [e])) q
  exact I.fly (t':=s.toks) lo (fun b o q n _=>k3 b o n q) fun b o q hb=>⟨o.slots,k3 b o (fun e=>nF b e hb) q⟩
 self:=fun _ _ _ _ _ st h=>wpAny_pyIter_zip st.1 h
abbrev itO(b:Bool)(l:Addr):Obj:={cls:=.type (bif b then "list_iterator" else "tuple_iterator"),data:=.fields #[.ref l,.int 0 0]}
abbrev zb1(b1:Bool)(h:Heap)(l1:Addr):Heap:=h.push (itO b1 l1)
abbrev zb2(b1 b2:Bool)(h:Heap)(l1 l2:Addr):Heap:=(zb1 b1 h l1).push (itO b2 l2)
abbrev zb3(b1 b2:Bool)(h:Heap)(l1 l2:Addr):Heap:=(zb2 b1 b2 h l1 l2).push {cls:=.type "tuple",data:=.seq #[.ref h.objs.size,.ref (zb1 b1 h l1).objs.size]}
abbrev zb4(b1 b2:Bool)(h:Heap)(l1 l2:Addr):Heap:=(zb3 b1 b2 h l1 l2).push {cls:=.type "tuple",data:=.seq #[.none,.none]}
abbrev zb5(b1 b2:Bool)(h:Heap)(l1 l2:Addr):Heap:=(zb4 b1 b2 h l1 l2).push {cls:=.type "zip",data:=.fields #[.none,.bool false,.bool false,.ref (zb2 b1 b2 h l1 l2).objs.size,.ref (zb3 b1 b2 h l1 l2).objs.size]}
theorem xi(b1 b2:Bool)(l1 l2:Addr)(xs ys:Array Value):
  Meets (Builtin.«zip.__new__» ⟨[.type "zip",.ref l1,.ref l2],[]⟩) (fun _ R s=>IsB b1 s.heap l1 xs∧IsB b2 s.heap l2 ys∧R (.ok (.ret (.ref (zb4 b1 b2 s.heap l1 l2).objs.size))) {s with heap:=zb5 b1 b2 s.heap l1 l2}):=
 .of_wp fun prog w A R s h=>by
  obtain⟨hp,g,d,tk,os⟩:=s; obtain⟨hl1,hl2,h⟩:=h
  have hsub:=sub_zip
  cases b1 <;> cases b2
  ·have hL1:Heap.IsTuple (Shared.heap ⟨hp,g,d,tk,os⟩) l1 xs:=hl1
   have hL2:Heap.IsTuple (Shared.heap ⟨hp.push {cls:=.type "tuple_iterator",data:=.fields #[.ref l1,.int 0 0]},g,d,tk,os⟩) l2 ys:=Heap.IsTuple.push hl2 _
   wp_walk using wpAny_pyIter_tuple hL1,wpAny_pyIter_tuple hL2
   exact⟨_,rfl,h⟩
  ·have hL1:Heap.IsTuple (Shared.heap ⟨hp,g,d,tk,os⟩) l1 xs:=hl1
   have hL2:Heap.IsList (Shared.heap ⟨hp.push {cls:=.type "tuple_iterator",data:=.fields #[.ref l1,.int 0 0]},g,d,tk,os⟩) l2 ys:=Heap.IsList.push hl2 _
   wp_walk using wpAny_pyIter_tuple hL1,wpAny_pyIter_list hL2
   exact⟨_,rfl,h⟩
  ·have hL1:Heap.IsList (Shared.heap ⟨hp,g,d,tk,os⟩) l1 xs:=hl1
   have hL2:Heap.IsTuple (Shared.heap ⟨hp.push {cls:=.type "list_iterator",data:=.fields #[.ref l1,.int 0 0]},g,d,tk,os⟩) l2 ys:=Heap.IsTuple.push hl2 _
   wp_walk using wpAny_pyIter_list hL1,wpAny_pyIter_tuple hL2
   exact⟨_,rfl,h⟩
  ·have hL1:Heap.IsList (Shared.heap ⟨hp,g,d,tk,os⟩) l1 xs:=hl1
   have hL2:Heap.IsList (Shared.heap ⟨hp.push {cls:=.type "list_iterator",data:=.fields #[.ref l1,.int 0 0]},g,d,tk,os⟩) l2 ys:=Heap.IsList.push hl2 _
   wp_walk using wpAny_pyIter_list hL1,wpAny_pyIter_list hL2
   exact⟨_,rfl,h⟩
theorem um{b:Bool}{l i:Addr}{h:Heap}(e:h.get? i=some (itO b l)):ItB b i l 0 h:=by cases b <;> exact⟨_,e,rfl,rfl⟩
theorem qS{P:Program}{w:World}{A:Around}{E:Value→Shared→Prop}{s:Shared}{b1 b2:Bool}{l1 l2:Addr}{xs ys:Array Value}{Q:Value→Shared→Prop}(hl1:IsB b1 s.heap l1 xs)(hl2:IsB b2 s.heap l2 ys)
  (h:∀ h',Zbn b1 b2 (s.heap.objs.size+4) (s.heap.objs.size+2) (s.heap.objs.size+3) s.heap.objs.size (s.heap.objs.size+1) l1 l2 0 h'→(∀ c o,s.heap.get? c=some o→h'.get? c=some o)→Q (.ref (s.heap.objs.size+4)) {s with heap:=h'}) :
  wpAny (model P w) A (call (.type "zip") [.ref l1,.ref l2]) Q E s:=by
 refine callType_new F.called_zip (by decide) (F.typeCall_zip_2 _ _) (F.newCall_zip_2 _ _) (fun obj=>F.args_object_init_3 obj _ _) F.entry_zip_new (xi b1 b2 l1 l2 xs ys) ⟨hl1,hl2,?_⟩
 have z1:(zb1 b1 s.heap l1).objs.size=s.heap.objs.size+1:=XD ..
 have z2:(zb2 b1 b2 s.heap l1 l2).objs.size=s.heap.objs.size+2:=by rw [XD,z1]
 have z3:(zb3 b1 b2 s.heap l1 l2).objs.size=s.heap.objs.size+3:=by rw [XD,z2]
 have z4:(zb4 b1 b2 s.heap l1 l2).objs.size=s.heap.objs.size+4:=by rw [XD,z3]
 have g5:(zb5 b1 b2 s.heap l1 l2).get? (zb4 b1 b2 s.heap l1 l2).objs.size=some _:=YJ _ rfl
 have g4:(zb5 b1 b2 s.heap l1 l2).get? (zb3 b1 b2 s.heap l1 l2).objs.size=some _:=YA _ (YJ _ rfl)
 have g3:(zb5 b1 b2 s.heap l1 l2).get? (zb2 b1 b2 s.heap l1 l2).objs.size=some _:=YA _ (YA _ (YJ _ rfl))
 have g2:(zb5 b1 b2 s.heap l1 l2).get? (zb1 b1 s.heap l1).objs.size=some (itO b2 l2):=YA _ (YA _ (YA _ (YJ _ rfl)))
 have g1:(zb5 b1 b2 s.heap l1 l2).get? s.heap.objs.size=some (itO b1 l1):=YA _ (YA _ (YA _ (YA _ (YJ _ rfl))))
 show _∧_
 rw [z2,z3,z4] at g5
 rw [z1,z2] at g3
 rw [z3] at g4
 rw [z1] at g2
 rw [z4]
 exact⟨⟨_,g5,rfl⟩,h _ ⟨g5,g3,⟨_,_,g4⟩,um g1,um g2⟩ fun c o x=>YA _ (YA _ (YA _ (YA _ (YA _ x))))⟩
section
variable{X:Cx}{elts:List Expr}{k:Nat}{tpos:Pos}
inductive iZipBI(K:WB)(R:It→Hp→Prop)(vs:List V)(H1:Hp):Prop | mk (b1 b2 a b xs ys) (_:vs=[.ref a,.ref b]) (_:SqB b1 K H1 a xs) (_:SqB b2 K H1 b ys) (_:R (Itb K b1 b2 a b) H1)
def zq(K:WB)(ta:TA):TI:=fun σ H R=>ta σ H (iZipBI K R)
theorem vz{e1 e2:Expr}{ta:TA}{p pos:Pos}(hg:Gl X "zip")(hm:X.mg "zip"=none)(ha:PA X [e1,e2] ta)(hs:starEach [e1,e2] X.env=(false,eval e1 X.env)::starEach [e2] X.env:=by rfl)(hpl:(backTo pos (starEach [e2] X.env)).any (·.1)=false:=by rfl):
  PI X (.Tuple elts k tpos) (.Call (.Name "zip" p) [e1,e2] [] pos) (zq X.K ta):=by
 intro pins s σ H R I h
 refine Call_ (je I hg hm yF (PyProof.Rows.callWith_type1 (thn (ha pos pins s σ H _ I h) fun us s1 ⟨vs,H1,I1,r1,q1⟩=>?_) hs hpl))
 obtain⟨b1,b2,a,b,xs,ys,e,hq,hq2,q⟩:=q1
 subst e
 obtain⟨u,v,rfl,ru,rv⟩:=im r1
 cases ru
 cases rv
 obtain⟨its,r',pl⟩:=I1.sqB hq
 obtain⟨jts,r2,pl2⟩:=I1.sqB hq2
 refine qS pl pl2 fun h' hZ hk=>?_
 refine wpAny_pyIter_zip hZ.1 ?_
 refine⟨s1.heap.objs.size+4,[s1.heap.objs.size+4,s1.heap.objs.size+2,s1.heap.objs.size+3,s1.heap.objs.size,s1.heap.objs.size+1],_,_,H1,rfl,I1.kept (t':=s1.toks) hk,qa (zipApart_new pl.lt pl2.lt),hZ,fun c hc=>?_,q⟩
 have hc':s1.heap.objs.size≤c:=by
  simp only [YM,XB,or_false] at hc
  rcases hc with rfl | rfl | rfl | rfl | rfl
  ·exact Nat.le_add_right _ 4
  ·exact Nat.le_add_right _ 2
  ·exact Nat.le_add_right _ 3
  ·exact YD _
  ·exact Nat.le_add_right _ 1
 exact I1.fpOk hc' (I1.hok.fresh hc')
end
theorem rj{K:WB}{b1 b2:Bool}{a b:Addr}{xs ys:List V}{te:TE}{σ:St}{H:Hp}{Q:VK}(hlen:xs.length=ys.length)(hz:xs.length≤sizeLine)(Pv:Nat→List V→Hp→Prop)(h0:Pv 0 [] H)(hk:∀ i zs H1,Pv i zs H1→SqB b1 K H1 a xs∧SqB b2 K H1 b ys)
  (hs:∀ i x y zs H1 H2,xs[i]? = some x→ys[i]? = some y→zs.length=i→Pv i zs H1→al H1 H2→te (some x::some y::σ) H2 fun v H3=>Pv (i+1) (zs++[v]) H3)
  (hd:∀ zs H1,zs.length=xs.length→Pv xs.length zs H1→∀ D,H1 D=none→Q (.ref D) (upd H1 D (.lst zs))):gj 2 (Itb K b1 b2 a b) (gTup K 2 (gCons (du 0) (gCons (du 1) zv))) te σ H Q:=by
 refine⟨fun i m zs σ' H1=>m=xs.length-i∧i≤xs.length∧zs.length=i∧(∃ o1 o2,σ'=o1::o2::σ)∧Pv i zs H1,⟨xs.length,by simp,YO _,rfl,⟨none,none,rfl⟩,h0⟩,?_⟩
 rintro i m zs σ' H1 ⟨rfl,hi,hy,⟨o1,o2,rfl⟩,p⟩
 obtain⟨e1,e2⟩:=hk i zs H1 p
 by_cases hlt:i<xs.length
 ·refine .inr ⟨⟨xs,ys,xs[i],ys[i],e1,e2,by simp [hlt],by simp [hlen▸hlt]⟩,by omega,fun x H' y=>?_⟩
  obtain⟨pp,x',y',hn,rfl,rfl,g1,g2⟩:=y
  refine⟨pp,[x',y'],rfl,SqT.of aa,rfl,_,_,rfl,_,_,rfl,rfl,?_⟩
  exact⟨fun v H3=>Pv (i+1) (zs++[v]) H3,hs i x' y' zs H1 _ (g1 xs e1) (g2 ys e2) hy p (ac hn _),fun v H3 h3=>⟨xs.length - (i+1),by omega,rfl,hlt,by simp [hy],⟨_,_,rfl⟩,h3⟩⟩
 ·obtain rfl:i=xs.length:=by omega
  exact .inl ⟨⟨xs,ys,e1,e2,YD _⟩,hd zs H1 hy p⟩
theorem uB{K:WB}{b1 b2:Bool}{a b:Addr}{xs ys:List V}{g:TG}{tb:TS}{D:gO}{σ:St}{H:Hp}(hlen:xs.length=ys.length)(Pv:Nat→St→Hp→Prop)(h0:Pv 0 σ H)(hl:∀ i σ H,i≤xs.length→Pv i σ H→SqB b1 K H a xs∧SqB b2 K H b ys)
  (hs:∀ i x y σ H p,xs[i]? = some x→ys[i]? = some y→H p=none→Pv i σ H→g (.ref p) σ (upd H p (.tup [x,y])) fun σ2 H2=>tb {D with nx:=Pv (i+1),ct:=Pv (i+1),bk:=D.nx} σ2 H2) (hd:∀ σ H,Pv xs.length σ H→D.nx σ H) :
  ∃ W:Nat→Nat→St→Hp→Prop,(∃ m,W 0 m σ H)∧∀ i m σ H,W i m σ H→
   ((Itb K b1 b2 a b).stop i H∧D.nx σ H)∨((Itb K b1 b2 a b).go i H∧∃ N:St→Hp→Prop,(∀ σ' H',N σ' H'→∃ m',m'<m∧W (i+1) m' σ' H')∧∀ x H',(Itb K b1 b2 a b).yld i H x H'→g x σ H' fun σ2 H2=>tb {D with nx:=N,ct:=N,bk:=D.nx} σ2 H2):=by
 refine⟨fun i m σ H=>m=xs.length-i∧i≤xs.length∧Pv i σ H,⟨xs.length,by simp,YO _,h0⟩,?_⟩
 rintro i m σ H ⟨rfl,hi,p⟩
 obtain⟨q1,q2⟩:=hl i σ H hi p
 by_cases hlt:i<xs.length
 ·refine .inr ⟨⟨xs,ys,xs[i],ys[i],q1,q2,by simp [hlt],by simp [hlen▸hlt]⟩,Pv (i+1),fun σ' H' p'=>⟨xs.length - (i+1),by omega,rfl,hlt,p'⟩,fun x H' y=>?_⟩
  obtain⟨pp,x',y',hp,rfl,rfl,e1,e2⟩:=y
  exact hs i x' y' σ H pp (e1 xs q1) (e2 ys q2) hp p
 ·have e:i=xs.length:=by omega
  subst e
  exact .inl ⟨⟨xs,ys,q1,q2,YD _⟩,hd σ H p⟩
theorem iL:∀ {ns:List Int} {us:List Value},ax (ns.map V.int) us→∃ ts:List (Int×Tok),us=ts.map (fun p=>Value.int p.1 p.2)∧ts.map (·.1)=ns
 | [],_,.nil=>⟨[],rfl,rfl⟩
 | n::r,_,.cons a h=>by
  obtain⟨t,rfl⟩:=a
  obtain⟨ts,e1,e2⟩:=iL h
  exact⟨(n,t)::ts,by rw [e1]; rfl,by rw [← e2]; rfl⟩
section
variable{X:Cx}
inductive rCall_maxLI(K:WB)(xs:List V)(H:Hp)(Q:VK):Prop | mk (p:Addr) (ns:List Int) (_:xs=[.ref p]) (_:SqL K H p (ns.map V.int)) (_:ns≠[]) (_:∀ m∈ns,Q (.int m) H)
theorem qU(hc:X.calm=true):bZ X (.builtin "max") (rCall_maxLI X.K):=by
 intro pins s σ H xs us Q I r h
 obtain⟨p,ns,rfl,hq,hn,q⟩:=h
 obtain⟨u,rfl,rx⟩:=dj r
 cases rx
 obtain⟨its,rv,pl,_⟩:=I.list hq
 obtain⟨ts,rfl,rfl⟩:=iL rv
 have e:(ts.map (fun p=>Value.int p.1 p.2)).toArray=intItems ts.toArray:=by simp [intItems]
 refine max_intList (xs:=ts.toArray) (I.ok.hd hc) (by rw [← e]; exact pl.isList) (by
  cases ts with
  | nil=>exact absurd rfl hn
  | cons _ _=>simp) fun v h' tk hv hk=>?_
 rw [← e] at hv
 have hv':v∈ts.map (fun p=>Value.int p.1 p.2):=by
  have:=Array.mem_of_getElem? hv
  simpa using this
 obtain⟨x,hx,rfl⟩:=XR.mp hv'
 exact⟨.int x.1,H,I.kept hk,⟨_,rfl⟩,q x.1 (XR.mpr ⟨x,hx,rfl⟩)⟩
end
theorem fc(l:Addr)(o:Obj)(b:Str)(u:Tok):
  Meets (Builtin.«dict.__eq__» ⟨[.ref l,.str b u],[]⟩) (fun _ R s=>s.heap.get? l=some o∧o.cls=.type "dict"∧R (.ok (.ret .notImplemented)) s):=
 .of_wp fun prog w A R s h=>by obtain⟨hp,g,d,tk,os⟩:=s; obtain⟨hl,hc,h⟩:=h; have f1:=F.sub_str_dict; wp_walk using wpAny_load hl; exact⟨_,rfl,h⟩
theorem eQ{es:Array DictEntry}{ep:Nat}{dd:Option Addr}{sl:Array (Option Value)}(b:Str)(u:Tok)(l:Addr):
  Meets (Builtin.«str.__eq__» ⟨[.str b u,.ref l],[]⟩) (fun _ R s=>s.heap.get? l=some {cls:=.type "dict",dict:=dd,data:=.dict es ep,slots:=sl}∧R (.ok (.ret .notImplemented)) s):=
 .of_wp fun prog w A R s h=>by obtain⟨hp,g,d,tk,os⟩:=s; obtain⟨hl,h⟩:=h; have f1:=F.sub_dict_str; wp_walk using wpAny_load hl; exact⟨_,rfl,h⟩
theorem mI{A:Around}{s:Shared}{l:Addr}{o:Obj}{es:Array DictEntry}{ep:Nat}(b:Str)(u:Tok)(ho:s.heap.get? l=some o)(hc:o.cls=.type "dict")(hd:o.data=.dict es ep)(hu:A.units<cLine):SeqAt.EqAt A s (.str b u) (.ref l) false:=fun prog w E Q h=>by
 obtain⟨cls,dd,data,sl⟩:=o
 simp only at hc hd
 subst hc hd
 unfold eqBool
 refine wpAny_holding ?_
 refine wpAny_ite_split (fun hab=>absurd (eq_of_beq hab) nofun) (fun _=>?_)
 refine Yz (SeqAt.rc_eq_decline_or (k:=false) (Ta:="str") (Tb:="dict") rfl ⟨_,ho,rfl⟩ (by decide) F.sub_dict_str F.slot_str_eq F.slot_dict_eq_refl
  (fun _ hq=>call_meets F.slot_str_eq rfl F.entry_str_eq (F.args_str_eq_2 _ _) (eQ b u l) ⟨ho,hq⟩)
  (fun _ hq=>call_meets F.slot_dict_eq_refl ⟨_,ho,rfl⟩ F.entry_dict_eq (F.args_dict_eq_2 _ _) (fc l _ b u) ⟨ho,rfl,hq⟩)
  (fun _ hq=>wpAny_of_eq (rfl:isSame (.str b u) (.ref l)=pure false) hq) (.inr hu) (wpAny_truthy_bool h))
inductive NoS(K:WB)(H:Hp):V→Prop where
 | flat {v:V}:dv v=true→NoS K H v
 | row {a:Addr} {xs:List V}:SqL K H a xs∨SqT K H a xs→NoS K H (.ref a)
 | dct {a:Addr} {kvs:List (Key×V)}:H a=some (.dK kvs)→NoS K H (.ref a)
section
variable{X:Cx}
theorem yD{A:Around}{pins:List (Addr×Obj)}{σ:St}{H:Hp}{s:Shared}{x:V}{v:Value}(I:Inv X pins σ H s)(hu:A.units<cLine)(rx:ar x v)(n:NoS X.K H x)(b:Str)(t:Tok):SeqAt.EqAt A s (.str b t) v (eqV (.str b) x):=by
 cases n with
 | flat f=>exact oy (y:=.str b) ⟨t,rfl⟩ rx rfl f
 | row h=>
  cases rx
  rcases h with h | h
  ·obtain⟨its,r,pl,_⟩:=I.list h
   exact SeqAt.EqAt.str_list b t pl.isList hu
  ·obtain⟨its,r,pl,_⟩:=I.tuple h
   exact SeqAt.EqAt.str_tuple b t pl hu
 | dct h=>
  cases rx
  obtain⟨o,es,ep,vs,h1,h2,h3,_⟩:=lc I.hok h
  exact mI b t h1 h2 h3 hu
inductive rInW(K:WB)(x y:V)(H:Hp)(Q:VK):Prop | mk (p:Addr) (ws:List Str) (_:y=.ref p) (_:SqT K H p (ws.map V.str)) (_:NoS K H x) (_:Q (.bl (inV x (ws.map V.str))) H)
theorem sP(hu:X.A.units+1<cLine):OpR X (compareOp .In) (rInW X.K):=by
 intro pins s σ H x y v u Q I rx ry h
 obtain⟨p,ws,rfl,hq,n,q⟩:=h
 cases ry
 obtain⟨its,r,pl,hz⟩:=I.tuple hq
 have hm:∀ {ws:List Str} {us:List Value},ax (ws.map V.str) us→(∀ w∈us,SeqAt.EqAt X.A.in1 s w v (eqU x w))∧us.any (eqU x)=inV x (ws.map V.str):=by
  intro ws
  induction ws with
  | nil=>intro us r; cases r; exact⟨(fun _ z=>nomatch z),rfl⟩
  | cons b ws ih=>
   intro us r
   cases r with | cons a r=>
   obtain⟨t,rfl⟩:=a
   obtain⟨h1,h2⟩:=ih r
   refine⟨fun w hw=>?_,by rw [XW,h2]; rfl⟩
   rcases YM.mp hw with rfl | hw
   ·exact yD I hu rx n b t
   ·exact h1 w hw
 obtain⟨h1,h2⟩:=hm r
 refine SeqAt.in_tupleAt (eqU x) pl (fun w hw=>h1 w (by simpa using hw)) ⟨.bl _,H,I,rfl,?_⟩
 rw [show its.toArray.any (eqU x)=its.any (eqU x) by simp,h2]
 exact q
end
end L2
set_option maxHeartbeats 4000000
namespace L2
open PySem PySem.Spec PyProof.Rows
section
variable{X:Cx}{tg:Expr}
theorem PI.or{l:Expr}{wi wi':TI}(h:PI X tg l wi)(h':PI X tg l wi'):PI X tg l (fun σ H R=>wi σ H R∨wi' σ H R):=by
 intro pins s σ H R I q
 rcases q with q | q
 ·exact h pins s σ H R I q
 ·exact h' pins s σ H R I q
def yz(K:WB)(tl:TE):TI:=fun σ H R=>xc K tl σ H R∨zr K tl σ H R
theorem xJ{l:Expr}{tl:TE}(hl:PE X l tl):PI X tg l (yz X.K tl):=(fz hl).or (sE hl)
theorem qF(K:WB):PySem.W.kitAny K (.type "list") [.type "list",.type "tuple"]=some true:=rfl
theorem om(K:WB):PySem.W.kitAny K (.type "tuple") [.type "list",.type "tuple"]=some true:=rfl
theorem gw(K:WB):PySem.W.kitOne K (.type "str") (.type "str")=some true:=rfl
theorem kD{t u:TS}{D:gO}{σ:St}{H:Hp}(Mid:St→Hp→Prop)(hu:∀ σ' H',Mid σ' H'→u D σ' H')(h:(∀ σ' H',Mid σ' H'→u D σ' H')→t {D with nx:=u D} σ H):yS t u D σ H:=h hu
end
theorem oB{n:Nat}{K:WB}{a:Addr}{xs:List V}{g:TG}{tk tv:TE}{σ:St}{H:Hp}{Q:VK}(hz:xs.length≤sizeLine)(Pv:Nat→List (Key×V)→Hp→Prop)(h0:Pv 0 [] H)(hl:∀ i kvs H,i≤xs.length→Pv i kvs H→SqL K H a xs∧kvs.length≤i)
  (hs:∀ (R:St→Hp→List (Key×V)→Prop) i x kvs H (vs:List (Option V)),vs.length=n→xs[i]? = some x→Pv i kvs H→(∀ vs' H4 kvs',List.length vs'=n→Pv (i+1) kvs' H4→R (vs'++σ) H4 kvs')→
   g x (vs++σ) H fun σ2 H2=>tk σ2 H2 fun y H3=>tv σ2 H3 fun v H4=>∃ k,y=kV k∧R σ2 H4 (cg kvs k v))
  (hd:∀ kvs H,Pv xs.length kvs H→∀ D,H D=none→Q (.ref D) (upd H D (.dK kvs))):iJ n (Itl K a) g tk tv σ H Q:=by
 refine⟨fun i m kvs σ' H=>i≤xs.length∧m=xs.length-i∧(∃ vs:List (Option V),vs.length=n∧σ'=vs++σ)∧Pv i kvs H,⟨xs.length,YO _,rfl,⟨_,XO,rfl⟩,h0⟩,?_⟩
 rintro i m kvs σ' H1 ⟨hi,rfl,⟨vs,hv,rfl⟩,p⟩
 obtain⟨q1,q2⟩:=hl i kvs H1 hi p
 by_cases hlt:i<xs.length
 ·refine .inr ⟨⟨xs,xs[i],q1,by simp [hlt]⟩,Xz q2 (Y2 hlt hz),fun x H' y=>?_⟩
  obtain⟨rfl,y⟩:=y
  exact hs (fun σ2 H4 kvs'=>∃ m',m'<xs.length-i∧i+1≤xs.length∧m'=xs.length - (i+1)∧(∃ vs:List (Option V),vs.length=n∧σ2=vs++σ)∧Pv (i+1) kvs' H4) i x kvs _ vs hv (y xs q1) p fun vs' H4 kvs' hv' p'=>⟨_,by omega,hlt,rfl,⟨vs',hv',rfl⟩,p'⟩
 ·have e:i=xs.length:=by omega
  subst e
  exact .inl ⟨⟨xs,q1,YD _⟩,hd kvs H1 p⟩
theorem oG{X:Cx}{T:String}(K:WB)(hK:X.K=K):bZ X (.builtin "isinstance") (rCall_isiTI K T):=hK▸j5
section
variable{X:Cx}
inductive rCall_reprYI(xs:List V)(H:Hp)(Q:VK):Prop | mk (R:Addr→Prop) (x:V) (d:PyData) (_:xs=[x]) (_:RdD R H x d) (_:d.showable=true) (_:d.depth≤60) (_:d.shown.length≤sizeLine) (_:Q (.str d.shown) H)
theorem bE{k:Nat}(hr:aO k X.A):bZ X (.builtin "repr") rCall_reprYI:=by
 intro pins s σ H xs us Q I r h
 obtain⟨R,x,d,rfl,hd,h1,h3,h4,q⟩:=h
 have refs:∀ p,x=.ref p→wpAny (model X.prog X.w) X.A (call (.builtin "repr") us) (EP X pins σ Q) X.xe s:=fun p e=>by
  subst e
  exact oE hr pins s σ H [.ref p] us Q I r ⟨R,p,d,rfl,hd,h1,h3,h4,q⟩
 obtain⟨u,rfl,rx⟩:=dj r
 cases hd with
 | non=>cases rx; exact PySem.P.repr_of_none ⟨.str "None",H,I.tok _,⟨_,rfl⟩,q⟩
 | bl b=>cases rx; exact PySem.P.repr_of_bool ⟨.str _,H,I.tok _,⟨_,rfl⟩,q⟩
 | int i=>obtain⟨t,rfl⟩:=rx; exact PySem.P.repr_of_int (by simpa [XJ] using h1) ⟨.str _,H,I.tok _,⟨_,rfl⟩,q⟩
 | str z=>obtain⟨t,rfl⟩:=rx; exact PySem.P.repr_of_str ⟨.str _,H,I.tok _,⟨_,rfl⟩,q⟩ h4
 | lst _ _ _=>exact refs _ rfl
 | tup _ _ _=>exact refs _ rfl
 | d0 _ _=>exact refs _ rfl
 | d1 _ _=>exact refs _ rfl
theorem uI:∀ {y:V},dv y=true→eqV y y=true
 | .non,_=>rfl
 | .bl b,_=>by simp [eqV]
 | .int i,_=>by simp [eqV]
 | .str z,_=>by simp [eqV]
inductive rOp_neFI(K:WB)(x y:V)(H:Hp)(Q:VK):Prop | mk (a b:Addr) (xs:List V) (_:x=.ref a) (_:y=.ref b) (_:SqT K H a xs) (_:SqT K H b xs) (_:xs.all dv=true) (_:Q (.bl false) H)
theorem kQ(hu:X.A.units+1<cLine):OpR X (compareOp .NotEq) (rOp_neFI X.K):=by
 intro pins s σ H x y v u Q I rx ry h
 obtain⟨a,b,xs,rfl,rfl,ha,hb,hf,q⟩:=h
 cases rx
 cases ry
 obtain⟨its,r1,p1,_⟩:=I.tuple ha
 obtain⟨jts,r2,p2,_⟩:=I.tuple hb
 refine SeqAt.RcNeAt.tuples (e:=fun _=>true) p1 p2 (Xz (Nat.le_add_right _ 1) hu) (fun j h1 h2=>?_) X.prog X.w X.xe _ ⟨.bl false,H,I.tok _,?_,q⟩
 ·have l1:j<xs.length:=by rw [r1.length]; simpa using h1
  obtain⟨u1,e1,ru1⟩:=r1.get (i:=j) (x:=xs[j]) (by simp [l1])
  obtain⟨u2,e2,ru2⟩:=r2.get (i:=j) (x:=xs[j]) (by simp [l1])
  have g1:its.toArray[j]=u1:=by simpa using (YV.mp e1).2
  have g2:jts.toArray[j]=u2:=by simpa using (YV.mp e2).2
  have fj:dv xs[j]=true:=XN.mp hf _ (XL l1)
  rw [g1,g2]
  have:=oy (A:=X.A.in1) (s:=s) ru1 ru2 fj fj
  rw [uI fj] at this
  exact this
 ·show Value.bool _=Value.bool false
  congr 1
  simp [← r1.length,← r2.length]
end
abbrev LC(k:NameKind)(s:Scope)(x:String):Prop:=s.names.lookup (Str.ofString x)=some k
abbrev LN(k:NameKind)(s:Stmt)(x:String):Prop:=(ag s).names.lookup (Str.ofString x)=some k
abbrev LD(x:String):Prop:=((Str.ofString x:Str)==("__debug__":Str))=false
abbrev LS(x:String):Prop:=((Str.ofString x:Str)==("__classdict__":Str))=false
abbrev LM(x:String):Prop:=(Str.ofString x:Str)≠"__name__"
end L2
theorem Few.le1{α:Type}{l:List α}(h:l.length=1):∃ v0,l=[v0]:=match l,h with
 | [v0],_=>⟨_,rfl⟩
theorem Few.le2{α:Type}{l:List α}(h:l.length=2):∃ v0 v1,l=[v0,v1]:=match l,h with
 | [v0,v1],_=>⟨_,_,rfl⟩
theorem Few.le3{α:Type}{l:List α}(h:l.length=3):∃ v0 v1 v2,l=[v0,v1,v2]:=match l,h with
 | [v0,v1,v2],_=>⟨_,_,_,rfl⟩
theorem Few.le4{α:Type}{l:List α}(h:l.length=4):∃ v0 v1 v2 v3,l=[v0,v1,v2,v3]:=by
 obtain⟨a0,l,rfl⟩:=List.exists_cons_of_length_eq_add_one h; replace h:=Nat.succ.inj h
 obtain⟨v1,v2,v3,rfl⟩:=Few.le3 h
 exact⟨_,_,_,_,rfl⟩
theorem Few.le5{α:Type}{l:List α}(h:l.length=5):∃ v0 v1 v2 v3 v4,l=[v0,v1,v2,v3,v4]:=by
 obtain⟨a0,l,rfl⟩:=List.exists_cons_of_length_eq_add_one h; replace h:=Nat.succ.inj h
 obtain⟨v1,v2,v3,v4,rfl⟩:=Few.le4 h
 exact⟨_,_,_,_,_,rfl⟩
theorem Few.le7{α:Type}{l:List α}(h:l.length=7):∃ v0 v1 v2 v3 v4 v5 v6,l=[v0,v1,v2,v3,v4,v5,v6]:=by
 obtain⟨a0,l,rfl⟩:=List.exists_cons_of_length_eq_add_one h; replace h:=Nat.succ.inj h
 obtain⟨a1,l,rfl⟩:=List.exists_cons_of_length_eq_add_one h; replace h:=Nat.succ.inj h
 obtain⟨a2,l,rfl⟩:=List.exists_cons_of_length_eq_add_one h; replace h:=Nat.succ.inj h
 obtain⟨v3,v4,v5,v6,rfl⟩:=Few.le4 h
 exact⟨_,_,_,_,_,_,_,rfl⟩
theorem Few.le10{α:Type}{l:List α}(h:l.length=10):∃ v0 v1 v2 v3 v4 v5 v6 v7 v8 v9,l=[v0,v1,v2,v3,v4,v5,v6,v7,v8,v9]:=by
 obtain⟨a0,l,rfl⟩:=List.exists_cons_of_length_eq_add_one h; replace h:=Nat.succ.inj h
 obtain⟨a1,l,rfl⟩:=List.exists_cons_of_length_eq_add_one h; replace h:=Nat.succ.inj h
 obtain⟨a2,l,rfl⟩:=List.exists_cons_of_length_eq_add_one h; replace h:=Nat.succ.inj h
 obtain⟨v3,v4,v5,v6,v7,v8,v9,rfl⟩:=Few.le7 h
 exact⟨_,_,_,_,_,_,_,_,_,_,rfl⟩
theorem Few.le13{α:Type}{l:List α}(h:l.length=13):∃ v0 v1 v2 v3 v4 v5 v6 v7 v8 v9 v10 v11 v12,l=[v0,v1,v2,v3,v4,v5,v6,v7,v8,v9,v10,v11,v12]:=by
 obtain⟨a0,l,rfl⟩:=List.exists_cons_of_length_eq_add_one h; replace h:=Nat.succ.inj h
 obtain⟨a1,l,rfl⟩:=List.exists_cons_of_length_eq_add_one h; replace h:=Nat.succ.inj h
 obtain⟨a2,l,rfl⟩:=List.exists_cons_of_length_eq_add_one h; replace h:=Nat.succ.inj h
 obtain⟨v3,v4,v5,v6,v7,v8,v9,v10,v11,v12,rfl⟩:=Few.le10 h
 exact⟨_,_,_,_,_,_,_,_,_,_,_,_,_,rfl⟩
namespace Few
open PySem PySem.Spec L2
abbrev lA0:List Str:=["_law_book_here","_law_thing","_law_meant_here"]
abbrev lA1:List Str:=["_law_pot_here","_law_book_here","_law_scope","_law_deep"]
abbrev lA2:List Str:=["_law_book_here","_law_thing","_law_places","_law_meant_here"]
abbrev lA3:List Str:=["_law_pot_here","_law_book_here","_law_scope","_law_kind","_law_deep"]
abbrev lA4:List Str:=["table","thing","scope","room"]
abbrev lA5:List Str:=["_law_pot_here","_law_many"]
abbrev lA6:List Str:=["_law_pot_here","_law_book_here","_law_thing"]
abbrev lA7:List Str:=["table","things","places","scope","room"]
abbrev lA8:List Str:=["_law_thing"]
abbrev lA9:List Str:=["_law_signs","_law_name_here","_law_many"]
abbrev lB0:List Str:=["thing"]
abbrev lB1:List Str:=["table","word","things","scope","room"]
abbrev lB2:List Str:=["_law_pot_here","_law_thing"]
abbrev lB3:List Str:=["_law_pot_here","_law_book_here","_law_deep"]
abbrev lB4:List Str:=["_law_signs","_law_thing"]
abbrev lB5:List Str:=["_law_pot_here","_law_most_kinds","_law_most_signs"]
abbrev lB6:List Str:=["_law_pot_here","_law_scope","_law_kind"]
abbrev lB7:List Str:=["_law_pot_here","_law_book_here","_law_menu","_law_names"]
abbrev lB8:List Str:=["self","kinds","ties","functions"]
abbrev lB9:List Str:=["_law_pot_here","_law_many","_law_menu"]
abbrev lC0:List Str:=["_law_pot_here","_law_book_here"]
abbrev lC1:List Str:=["table","things","scope","room"]
abbrev lC2:List Str:=["_law_one","_law_book_here","_law_thing","_law_meant_here","_law_word","_law_kinds","_law_places"]
abbrev lC3:List Str:=["self"]
abbrev lC4:List Str:=["things","many"]
abbrev lC5:List Str:=["_law_book_here","_law_thing"]
abbrev lC6:List Str:=["self","signs","sayings"]
abbrev lC7:List Str:=["_law_name_here","_law_pot_here","_law_book_here","_law_menu","_law_names"]
abbrev lC8:List Str:=["_law_script","_law_k"]
abbrev lC9:List Str:=["signs","thing"]
abbrev lD0:List Str:=["_law_signs","_law_rows"]
abbrev lD1:List Str:=["kinds","kind"]
abbrev lD2:List Str:=["thing","room"]
abbrev lD3:List Str:=["kinds","places"]
abbrev lD4:List Str:=["_law_cell_here"]
abbrev lD5:List Str:=["not","and","or"]
abbrev lD6:List Str:=["signs","things"]
abbrev lD7:List Str:=["signs","saying"]
abbrev lD8:List Str:=["_law_signs","_law_thing","_law_told_here","_law_e"]
abbrev lD9:List Str:=["kinds","function"]
abbrev lE0:List Str:=["all","some"]
abbrev lE1:List Str:=["self","signs"]
abbrev lE2:List Str:=["_law_e"]
abbrev lE3:List Str:=["name","places","kind","self","signs"]
abbrev lE4:List Str:=["kinds","tie"]
abbrev lE5:List Str:=["_law_scope"]
abbrev lE6:List Str:=["names"]
abbrev lE7:List Str:=["_law_script"]
abbrev lE8:List Str:=["name"]
abbrev lE9:List Str:=["kinds"]
variable{P:Program}{w:World}{K:WB}{mg:Str→Option Value}{base:Heap}
def top(i:Nat):Stmt:=PySem.Challenge.pw_fewthings_k13_sayings_looked_over.main.body.getD i (.Pass ⟨0,0,0,0⟩)
structure Bl(mg:Str→Option Value):Prop where
 n_len:mg "len"=none
 n_max:mg "max"=none
 n_abs:mg "abs"=none
 n_divmod:mg "divmod"=none
 n_list:mg "list"=none
 n_tuple:mg "tuple"=none
 n_range:mg "range"=none
 n_int:mg "int"=none
 n_str:mg "str"=none
 n_repr:mg "repr"=none
 n_isinstance:mg "isinstance"=none
 n_all:mg "all"=none
 n_set:mg "set"=none
theorem jY{α β:Type}(f:α→β):∀ (l:List α) (i:Nat),(l.map f).eraseIdx i=(l.eraseIdx i).map f
 | [],_=>rfl
 | _::_,0=>rfl
 | x::r,i+1=>by
  show f x::(r.map f).eraseIdx i=f x::(r.eraseIdx i).map f
  rw [jY f r i]
theorem f9{α:Type}:∀ (l:List α) (i:Nat) (h:i<l.length),(l[i]::l.eraseIdx i).Perm l
 | x::r,0,_=>Wz.refl _
 | x::r,i+1,h=>by
  show (r[i]'(by simpa using h)::x::r.eraseIdx i).Perm (x::r)
  exact(Wz.swap _ _ _).trans (Wz.cons x (f9 r i (by simpa using h)))
inductive Cm(n:Nat)(N:List Str):Prop where
 | mk:Cm n N
theorem nth(i:Nat){N:List Str}{x:Str}(h:N[i]? = some x):N[i]? = some x:=h
theorem xa{sc:Scope}{x:Str}(h:(sc.names.lookup x==some .local||sc.names.lookup x==some .cell)=true):sc.names.lookup x=some .local∨sc.names.lookup x=some .cell:=by
 rcases Bool.or_eq_true _ _ |>.mp h with h | h
 ·exact .inl (eq_of_beq h)
 ·exact .inr (eq_of_beq h)
theorem z7{N ps:List Str}{sc:Scope}{X:Cx}{x:Str}(S:ai N ps sc)(e:X.env.scope=sc)(h:sc.names.lookup x=some .globalImplicit):Gl X x:=by rw [← e] at h; exact h
theorem zX{N ps:List Str}{sc:Scope}{X:Cx}{x:Str}(S:ai N ps sc)(e:X.env.scope=sc)(h:(sc.names.lookup x==some .local||sc.names.lookup x==some .cell)=true):Loc X.env.scope x:=by rw [e]; exact xa h
theorem zH{N ps:List Str}{sc:Scope}{X:Cx}{x:Str}(S:ai N ps sc)(e:X.env.scope=sc)(h:(sc.names.lookup x==some .local||sc.names.lookup x==some .cell)=true):Vis X.env.scope x:=by rw [e]; exact(xa h).elim az zE
theorem zF{X:Cx}{N':List Str}{scope:Scope}{cl:List (Str×Addr)}{C:Addr}{ex:List Addr}{s:Shared}{H:Hp}{x:Str}(h:scope.names.lookup x=some .local):Vis (ak X N' scope cl C ex s H).env.scope x:=rz h
theorem zG{X:Cx}{N':List Str}{scope:Scope}{cl:List (Str×Addr)}{C:Addr}{ex:List Addr}{s:Shared}{H:Hp}{x:Str}(h:scope.names.lookup x=some .free):Vis (ak X N' scope cl C ex s H).env.scope x:=yP h
theorem z8{X:Cx}{N':List Str}{scope:Scope}{cl:List (Str×Addr)}{C:Addr}{ex:List Addr}{s:Shared}{H:Hp}{x:Str}(h:scope.names.lookup x=some .globalImplicit):Gl (ak X N' scope cl C ex s H) x:=glO h
theorem zY{N ps:List Str}{sc:Scope}{X:Cx}{x:Str}(S:ai N ps sc)(e:X.env.scope=sc)(h:sc.names.lookup x=some .local):X.env.scope.names.lookup x=some .local:=by rw [e]; exact h
theorem y8{X:Cx}{mg:Str→Option Value}{x:Str}{v:V}{u:Value}{pos:Pos}(hm:mg x=some u)(q:X.mg=mg)(r:ar v u)(hg:Gl X x)(hd:(x==("__debug__":Str))=false):PE X (.Name x pos) (tC v):=cJ hg (by rw [q]; exact hm) r hd
theorem zb{X:Cx}{P:Program}{w:World}{K:WB}{mg:Str→Option Value}{base:Heap}{x:Str}{k:Nat}{ps:List Str}{sp:Sp}{p pos:Pos}{e:Expr}{es:List Expr}{t:TA}(D:Def P w K mg base x k ps sp)(q:(X.prog,X.w,X.K,X.mg,X.base)=(P,w,K,mg,base))(hr:aO k X.A)(hg:Gl X x)(ha:PA X (e::es) t)
  (hdb:(x==("__debug__":Str))=false) (he:starEach (e::es) X.env=(false,eval e X.env)::starEach es X.env) (hpl:(backTo pos (starEach es X.env)).any (·.1)=false):PE X (.Call (.Name x p) (e::es) [] pos) (iQ sp [] E0 t):=by
 cases q
 exact bx D hr hg ha hdb he hpl
theorem xQ{X:Cx}{E:XK}{P:Program}{w:World}{K:WB}{mg:Str→Option Value}{base:Heap}{x:Str}{k:Nat}{ps:List Str}{sp:Sp}{p pos:Pos}{e:Expr}{es:List Expr}{t:TA}(fr:cj X)(D:bc P w K mg base x k ps sp)(q:(X.prog,X.w,X.K,X.mg,X.base)=(P,w,K,mg,base))(hr:aO k X.A)(hg:Gl X x)(ha:PA (X.exc E) (e::es) t)
  (hdb:(x==("__debug__":Str))=false) (he:starEach (e::es) X.env=(false,eval e X.env)::starEach es X.env) (hpl:(backTo pos (starEach es X.env)).any (·.1)=false):PE (X.exc E) (.Call (.Name x p) (e::es) [] pos) (iQ sp [] E t):=by
 cases q
 exact kN fr D hr hg ha hdb he hpl
theorem yQ{X:Cx}{E:XK}{N':List Str}{scope:Scope}{cl:List (Str×Addr)}{C:Addr}{ex:List Addr}{s:Shared}{H:Hp}{x:Str}(h:scope.names.lookup x=some .local):Vis ((ak X N' scope cl C ex s H).exc E).env.scope x:=rz h
theorem yR{X:Cx}{E:XK}{N':List Str}{scope:Scope}{cl:List (Str×Addr)}{C:Addr}{ex:List Addr}{s:Shared}{H:Hp}{x:Str}(h:scope.names.lookup x=some .free):Vis ((ak X N' scope cl C ex s H).exc E).env.scope x:=yP h
theorem zu{X:Cx}{E:XK}{N':List Str}{scope:Scope}{cl:List (Str×Addr)}{C:Addr}{ex:List Addr}{s:Shared}{H:Hp}{x:Str}(h:scope.names.lookup x=some .globalImplicit):Gl ((ak X N' scope cl C ex s H).exc E) x:=glO h
theorem zba{X:Cx}{E:XK}{N':List Str}{scope:Scope}{cl:List (Str×Addr)}{C:Addr}{ex:List Addr}{s:Shared}{H:Hp}(h:N'.Nodup):((ak X N' scope cl C ex s H).exc E).N.Nodup:=h
theorem AC{N ps:List Str}{sc:Scope}{X:Cx}{n:Nat}{N':List Str}{scope:Scope}(_:Cm n N')(S:ai N ps sc)(e:X.env.scope=sc)(f:X.N=N)(h:ik n N' N sc scope):aK n N' X scope:=by
 subst e
 subst f
 exact h.at
theorem zbb{X:Cx}{N':List Str}{scope:Scope}{cl:List (Str×Addr)}{C:Addr}{ex:List Addr}{s:Shared}{H:Hp}(h:N'.Nodup):(ak X N' scope cl C ex s H).N.Nodup:=h
inductive Hn(k l c e:Nat):Prop where
 | mk:Hn k l c e
theorem aj(k l c e:Nat):Hn k l c e:=.mk
inductive Hc(l c e n:Nat)(N:List Str):Prop where
 | mk:Hc l c e n N
theorem bB(l c e n:Nat)(N:List Str):Hc l c e n N:=.mk
theorem gE(k:Nat){X:Cx}{e:Expr}{t:TE}(_:Hn k e.pos.line e.pos.col e.pos.endCol)(d:PE X e t):PE X e t:=d
theorem gT(k:Nat){X:Cx}{e:Expr}{t:TT}(_:Hn k e.pos.line e.pos.col e.pos.endCol)(d:PT X e t):PT X e t:=d
theorem gS(k:Nat){X:Cx}{e:Stmt}{t:TS}(_:Hn k e.pos.line e.pos.col e.pos.endCol)(d:PS X e t):PS X e t:=d
theorem gI(k:Nat){X:Cx}{g e:Expr}{t:TI}(_:Hn k e.pos.line e.pos.col e.pos.endCol)(d:PI X g e t):PI X g e t:=d
theorem gG(k:Nat){X:Cx}{e:Expr}{t:TG}(_:Hn k e.pos.line e.pos.col e.pos.endCol)(d:PG X e t):PG X e t:=d
theorem gC{X:Cx}{e:Expr}{t:TE}{n:Nat}{N:List Str}(_:Hc e.pos.line e.pos.col e.pos.endCol n N)(d:Cm n N→PE X e t):PE X e t:=d .mk
theorem gD{X:Cx}{e:Stmt}{t:TS}{n:Nat}{N:List Str}(_:Hc e.pos.line e.pos.col e.pos.endCol n N)(d:Cm n N→PS X e t):PS X e t:=d .mk
local macro_rules | `(tactic| walk_at "R")=>`(tactic| (exact ‹aO _ _›.mono (by first | decide | omega)))
local macro_rules | `(tactic| walk_at "T")=>`(tactic| (exact ‹ai _ _ _›.nd))
local macro_rules | `(tactic| walk_at "U")=>`(tactic| ((case S=>walk_at "C");(case o1=>exact bL);(case o2=>rfl);walk_at "I"))
local macro_rules | `(tactic| walk_at "A")=>`(tactic| ((case g=>walk_at "b");(case m=>walk_at "z");(case a=>walk_at "a");(case n=>decide +kernel);(case d=>decide +kernel);(case e=>rfl);case f=>rfl))
local macro_rules | `(tactic| walk_at "D")=>`(tactic| ((case a=>walk_at "e");(case b=>walk_at "e");case c=>walk_at "m"))
local macro_rules | `(tactic| walk_at "M")=>`(tactic| ((case a=>walk_at "e");(case b=>walk_at "a");(case c=>rfl);(case d=>rfl);(case e=>rfl);(case f=>rfl);case g=>rfl))
local macro_rules | `(tactic| walk_at "E")=>`(tactic| ((case d=>rfl);(case a=>walk_at "b");(case b=>walk_at "z");(case e=>decide +kernel);case f=>decide +kernel))
local macro_rules | `(tactic| walk_at "N")=>`(tactic| ((case c=>walk_at "b");(case d=>walk_at "a");(case e=>decide +kernel);(case f=>rfl);case g=>rfl))
local macro_rules | `(tactic| walk_at "I")=>`(tactic| ((case i=>walk_at "i");(case g=>intro _ _ _ _ _;walk_at "q");(case e=>intro _ _ _ _ _;walk_at "e")))
local macro_rules | `(tactic| walk_at "O")=>`(tactic| ((case o1=>walk_at "T");(case o2=>exact bL);(case o3=>rfl);(case o4=>rfl);(case a=>walk_at "n");(case b=>walk_at "l")))
local macro_rules | `(tactic| walk_at "B")=>`(tactic| ((case a=>walk_at "e");case b=>walk_at "e"))
local macro_rules | `(tactic| walk_at "J")=>`(tactic| (case a=>walk_at "e"))
local macro_rules | `(tactic| walk_at "k")=>`(tactic| (case h=>decide +kernel))
local macro_rules | `(tactic| walk_at "S")=>`(tactic| first | with_reducible exact dC |((with_reducible refine' aL ?a);case a=>walk_at "s")|((with_reducible refine' au ?a ?b);(case a=>walk_at "s");case b=>walk_at "S"))
local macro_rules | `(tactic| walk_at "s0")=>`(tactic| first
 | with_reducible exact ps_retN
 |((with_reducible refine' cB ?a);walk_at "J")
 |((with_reducible refine' iq ?a ?b ?c);(case a=>walk_at "t");(case b=>walk_at "S");case c=>walk_at "S")
 |((with_reducible refine' aZ ?s0 ?a ?b ?c ?d ?e);(case s0=>walk_at "T");(case a=>walk_at "n");(case b=>walk_at "l");(case c=>walk_at "e");(case d=>rfl);case e=>exact .inl rfl)
 |((with_reducible refine' vo ?a ?b);(walk_at "J");case b=>rfl)
 |((with_reducible refine' nQ ?p0 ?r0 ?a ?b ?c ?d);(case p0=>(first | exact PassesOwn.never | exact qr));(case r0=>rfl);(case a=>walk_at "i");(case b=>walk_at "g");(case c=>walk_at "S");case d=>intro _;rfl)
 |((with_reducible refine' vt ?a ?b uv ?c ?d lL ?h0);(case h0=>intros;rfl);(walk_at "J");(case b=>walk_at "e");(case c=>walk_at "e");case d=>(first | with_reducible exact ip_add | exact yy))
 |((with_reducible refine' xD ?r0 ?s0 ?a ?b ?j0 ?c ?d ?e ?k0 ?f);(case r0=>rfl);(case s0=>walk_at "T");(case a=>walk_at "n");(case b=>walk_at "n");(case j0=>decide);(case c=>walk_at "L");(case d=>walk_at "L");(case e=>walk_at "a");(case k0=>rfl);case f=>rfl)
 |((with_reducible refine' xF ?a ?b ?c);(walk_at "J");(case b=>walk_at "e");case c=>rfl)
 |((with_reducible refine' sw ?f ?r0 ?o ?g ?a ?d ?e ?h);(case o=>assumption);(case f=>exact bL);(case r0=>rfl);(case g=>walk_at "b");(case a=>walk_at "a");(case d=>decide +kernel);(case e=>rfl);case h=>rfl)
 | with_reducible exact sx (st:=.Raise _ _ _)
 |((with_reducible refine' xG ?a ?b ?c ?d ?e);(walk_at "J");(case b=>walk_at "g");(case c=>rfl);(case d=>rfl);case e=>rfl))
local macro_rules | `(tactic| walk_at "n")=>`(tactic| first | exact nth 0 rfl | exact nth 1 rfl | exact nth 2 rfl | exact nth 3 rfl | exact nth 4 rfl | exact nth 5 rfl | exact nth 6 rfl | exact nth 7 rfl | exact nth 8 rfl | exact nth 9 rfl | exact nth 10 rfl | exact nth 11 rfl | exact nth 12 rfl | exact nth 13 rfl | exact nth 14 rfl | exact nth 15 rfl)
local macro_rules | `(tactic| walk_at "l")=>`(tactic| refine' zX ?S ?e ?h;(case S=>assumption);(case e=>rfl);walk_at "k")
local macro_rules | `(tactic| walk_at "v")=>`(tactic| first |((with_reducible refine' zF ?h);walk_at "k")|((with_reducible refine' zG ?h);walk_at "k")|((with_reducible refine' yQ ?h);walk_at "k")|((with_reducible refine' yR ?h);walk_at "k")|((with_reducible refine' zH ?S ?e ?h);(case S=>assumption);(case e=>rfl);walk_at "k"))
local macro_rules | `(tactic| walk_at "b")=>`(tactic| first |((with_reducible refine' z8 ?h);walk_at "k")|((with_reducible refine' zu ?h);walk_at "k")|((with_reducible refine' z7 ?S ?e ?h);(case S=>assumption);(case e=>rfl);walk_at "k"))
local macro_rules | `(tactic| walk_at "z")=>`(tactic| first | exact ‹Bl _›.n_len | exact ‹Bl _›.n_tuple | exact ‹Bl _›.n_list | exact ‹Bl _›.n_range | exact ‹Bl _›.n_isinstance | exact ‹Bl _›.n_str | exact ‹Bl _›.n_repr | exact ‹Bl _›.n_max | exact ‹Bl _›.n_abs | exact ‹Bl _›.n_divmod | exact ‹Bl _›.n_int | exact ‹Bl _›.n_all | exact ‹Bl _›.n_set | assumption)
local macro_rules | `(tactic| walk_at "e0")=>`(tactic| first
 | with_reducible (first | exact aX | exact aA | exact eC | exact hJ)
 |((with_reducible first | refine' eh (x:=Str.ofString "str") (v:=V.ty "str") ?a ?b oK ?d ?e ?f | refine' eh (x:=Str.ofString "list") (v:=V.ty "list") ?a ?b lj ?d ?e ?f | refine' eh (x:=Str.ofString "tuple") (v:=V.ty "tuple") ?a ?b mT ?d ?e ?f | refine' eh (x:=Str.ofString "int") (v:=V.ty "int") ?a ?b uS ?d ?e ?f | refine' eh (x:=Str.ofString "dict") (v:=V.ty "dict") ?a ?b pP ?d ?e ?f);walk_at "E")
 |((with_reducible refine' y8 ?b ?q ?c ?a ?d);(case b=>with_reducible assumption);(case q=>rfl);(case c=>assumption);(case a=>walk_at "b");case d=>decide +kernel)
 |((with_reducible refine' sF ?a ?b ?c ?d);(case a=>walk_at "n");(case b=>walk_at "v");(case c=>decide +kernel);case d=>decide +kernel)
 |((with_reducible refine' cY ix_list ?a ?b ?r0);(case r0=>intro _ _;rfl);walk_at "B")
 |((with_reducible refine' gt sl_list ?a ?b ?c);(walk_at "J");(case b=>walk_at "p");case c=>walk_at "p")
 |((with_reducible refine' dX ?o ?a ?b);(case o=>(with_reducible first | exact xX | exact sO | exact xU | exact vF | exact xV | exact xT));walk_at "B")
 |((with_reducible refine' ee ?o ?a ?b ?c);(case o=>walk_at "c");walk_at "D")
 |((with_reducible refine' dP ?a);case a=>walk_at "a")
 |((with_reducible refine' bq ?a);case a=>walk_at "a")
 |((with_reducible refine' zb ?a ?r0 ?b ?c ?d ?e ?f ?g);(case a=>with_reducible assumption);(case r0=>rfl);(case b=>walk_at "R");walk_at "N")
 |((with_reducible refine' xQ ?o0 ?a ?r0 ?b ?c ?d ?e ?f ?g);(case a=>with_reducible assumption);(case o0=>(first | exact bL | exact mF bL));(case r0=>rfl);(case b=>walk_at "R");walk_at "N")
 |((with_reducible refine' kL ?a ?b ?c ?d ?e ?f ?y0 ?z0 ?g ?h ?i ?j);(case e=>assumption);(case a=>assumption);(case b=>assumption);(case c=>walk_at "R");(case d=>walk_at "b");(case f=>assumption);(case y0=>exact .nil);(case z0=>exact lR);(case g=>walk_at "a");(walk_at "k");(case i=>rfl);case j=>rfl)
 |((with_reducible refine' aJ ?c ?g ?m ?v ?a ?n ?d ?e ?f);(case v=>(with_reducible first | exact lm | exact cM | exact uR | exact yI | exact q8 | exact yH));(case c=>(first | with_reducible exact gJ | exact qV rfl | with_reducible (first | exact uQ | exact mR) | exact qZ rfl | exact call_reprD ‹aO _ _›));walk_at "A")
 |((with_reducible refine' jI ?c ?g ?m ?v ?a ?n ?d ?e ?f);(case v=>(with_reducible first | exact mT | exact lj | exact uS | exact oK | exact yG | exact bt_range | exact pP));(case c=>(first | with_reducible (first | exact jy | exact gH | exact qY | exact call_str_int) | exact qT rfl | with_reducible (first | exact call_range1 | exact oJ)));walk_at "A")
 |((with_reducible refine' xP ?a ?r0);(case r0=>rfl);walk_at "J")
 |((with_reducible refine' sM (name:=Str.ofString "append") ?o1 ?o2 ?o3 ?o4 ?a ?b ?c ?d ?e ?f ?g);(case o1=>exact PySem.F.plainAttrs_list);(case o2=>exact PySem.F.slot_list_append);(case o3=>exact PySem.F.type_list_append);(case o4=>exact qB);walk_at "M")
 |((with_reducible refine' sM (name:=Str.ofString "pop") ?o1 ?o2 ?o3 ?o4 ?a ?b ?c ?d ?e ?f ?g);(case o1=>exact PySem.F.plainAttrs_list);(case o2=>exact PySem.F.slot_list_pop);(case o3=>exact PySem.F.type_list_pop);(case o4=>exact tY);walk_at "M")
 |((with_reducible refine' lQ ?a ?o1 ?m ?f ?b ?d ?o3 ?o2 ?c);(case m=>assumption);(case o1=>walk_at "K");(case o2=>exact lR);(case o3=>exact .nil);(case f=>assumption);(case d=>assumption);(walk_at "J");(case b=>walk_at "R");case c=>rfl)
 | with_reducible exact gu
 |((with_reducible refine' sI ?h ?a ?b ?m);(case h=>exact eE ‹aO _ _›);(walk_at "J");(case b=>walk_at "e");case m=>exact⟨rfl,rfl,rfl,rfl⟩)
 |((with_reducible refine' i5 ?a ?b ?c);(case a=>walk_at "t");(case b=>walk_at "e");case c=>walk_at "e")
 |((with_reducible refine' pv ?a ?r1 ?r2 ?r3 ?r4);(case a=>walk_at "P");(case r1=>rfl);(case r2=>rfl);(case r3=>simp);case r4=>decide)
 |((with_reducible refine' sH ?a);walk_at "J")
 |((with_reducible refine' xO ?a);walk_at "J")
 |((with_reducible refine' xR ?a ?b);walk_at "B")
 |((with_reducible refine' y7 ?a ?b);walk_at "B"))
local macro_rules | `(tactic| walk_at "c")=>`(tactic| first | with_reducible (first | exact sR | exact lV | exact zc | exact wX | exact zd | exact op_ge | exact qt | exact kP | exact xW | exact vE))
local macro_rules | `(tactic| walk_at "m")=>`(tactic| first | exact dQ _ | with_unfolding_all rfl)
local macro_rules | `(tactic| walk_at "p")=>`(tactic| first | with_reducible exact vy |((with_reducible refine' kK ?a);walk_at "J"))
local macro_rules | `(tactic| walk_at "a")=>`(tactic| first | with_reducible exact am | exact vD (by (constructor;constructor;constructor;repeat constructor))|((with_reducible refine' ad ?a ?b ?c);(walk_at "J");(case b=>walk_at "a");case c=>rfl))
local macro_rules | `(tactic| walk_at "t0")=>`(tactic| first
 |((with_reducible refine' sv ?o ?p ?a ?b ?c ?d);(case o=>walk_at "c");(case p=>walk_at "c");(walk_at "J");(case b=>walk_at "e");(case c=>walk_at "e");case d=>with_unfolding_all rfl)
 |((with_reducible refine' PW.pt (e:=.BoolOp _ _ _) ?a);case a=>walk_at "w")
 |((with_reducible refine' nO ?a);case a=>walk_at "t")
 |((with_reducible refine' br ?o ?a ?b ?c);(case o=>walk_at "c");walk_at "D")
 |((with_reducible refine' kI ?a ?b);(walk_at "J");case b=>intro _;rfl))
local macro_rules | `(tactic| walk_at "w")=>`(tactic| first |((with_reducible refine' kH ?a);case a=>walk_at "t")|((with_reducible refine' vm ?a);case a=>walk_at "t")|((with_reducible refine' pi ?a ?b);(case a=>walk_at "t");case b=>walk_at "w")|((with_reducible refine' xB ?a ?b);(case a=>walk_at "t");case b=>walk_at "w"))
local macro_rules | `(tactic| walk_at "i0")=>`(tactic| first
 |((with_reducible refine' jH ?a ?b ?c ?d);(case a=>walk_at "b");(case b=>walk_at "z");(case c=>walk_at "a");case d=>rfl)
 |((with_reducible refine' vz ?a ?b ?c ?d ?e);(case a=>walk_at "b");(case b=>walk_at "z");(case c=>walk_at "a");(case d=>rfl);case e=>rfl)
 |((with_reducible refine' fz ?a);walk_at "J"))
local macro_rules | `(tactic| walk_at "g0")=>`(tactic| first
 |((with_reducible refine' d9 ?s0 ?a ?b ?c);(case s0=>walk_at "T");(case a=>walk_at "n");(case b=>walk_at "l");case c=>exact .inl rfl)
 |((with_reducible refine' xK ?a ?b lL ?c);(walk_at "J");(case b=>walk_at "e");case c=>intro _;rfl)
 |((with_reducible refine' vB ?r0 ?a ?b ?c ?d);(case r0=>rfl);(case a=>walk_at "G");(case b=>rfl);(case c=>rfl);case d=>rfl)
 |((with_reducible refine' nU ?r0 ?a ?b ?c);(case r0=>rfl);(case a=>walk_at "G");(case b=>rfl);case c=>rfl))
local macro_rules | `(tactic| walk_at "G")=>`(tactic| first | with_reducible exact pk |((with_reducible refine' lP ?a ?b ?c);(case a=>walk_at "g");(case b=>walk_at "G");case c=>rfl))
local macro_rules | `(tactic| walk_at "L")=>`(tactic| refine' zY ?S ?e ?h;(case S=>assumption);(case e=>rfl);walk_at "k")
local macro_rules | `(tactic| walk_at "P")=>`(tactic| first | with_reducible exact pj |((with_reducible refine' lO ?a ?b ?c);(walk_at "J");(case b=>walk_at "e");case c=>walk_at "P"))
local macro_rules | `(tactic| walk_at "S1")=>`(tactic| refine' aL ?a;case a=>walk_at "s")
local macro_rules | `(tactic| walk_at "S2")=>`(tactic| refine' au ?a ?b;(case a=>walk_at "s");case b=>walk_at "S")
local macro_rules | `(tactic| walk_at "s")=>`(tactic| first
 |((with_reducible refine' gS 19 ?hh ?_);(case hh=>assumption);(with_reducible refine' gD ?hh ?_);(case hh=>assumption);intro _;((with_reducible refine' xE ?w);case w=>((with_reducible refine' io ?o1 ?a ?b ?o3 ?o2 ?o4 ?S ?i ?g ?c ?e ?h ?j);(case S=>walk_at "C");walk_at "O";(case i=>walk_at "i");(case g=>intro _ _ _ _ _;walk_at "q");(case c=>intro _ _ _ _ _;walk_at "t");(case e=>intro _ _ _ _ _;walk_at "e");(case h=>intro _;rfl);case j=>exact .inl rfl)))
 |((with_reducible refine' gD ?hh ?_);(case hh=>assumption);intro _;((with_reducible refine' i4 ?o1 ?a ?b ?o3 ?o2 ?o4 ?S ?i ?g ?e ?h ?j);(case S=>walk_at "C");(case o1=>walk_at "T");(case o2=>exact tU);(case o3=>rfl);(case o4=>rfl);(case a=>walk_at "n");(case b=>walk_at "l");walk_at "I";(case h=>intro _;rfl);case j=>exact .inl rfl))
 |((with_reducible refine' gS 15 ?hh ?_);(case hh=>assumption);(with_reducible refine' vp ?o1 ?a ?b ?c ?o2);(case o1=>exact eE ‹aO _ _›);(case o2=>rfl);(walk_at "J");(case b=>walk_at "e");case c=>walk_at "e")
 |((with_reducible refine' gD ?hh ?_);(case hh=>assumption);intro _;((with_reducible refine' io ?o1 ?a ?b ?o3 ?o2 ?o4 ?S ?i ?g ?c ?e ?h ?j);(case S=>walk_at "C");walk_at "O";(case i=>walk_at "i");(case g=>intro _ _ _ _ _;walk_at "q");(case c=>intro _ _ _ _ _;walk_at "t");(case e=>intro _ _ _ _ _;walk_at "e");(case h=>intro _;rfl);case j=>exact .inl rfl))
 | walk_at "s0")
local macro_rules | `(tactic| walk_at "e")=>`(tactic| first
 |((with_reducible refine' gC ?hh ?_);(case hh=>assumption);intro _;((with_reducible refine' kO ?o1 ?o2 ?S ?i ?g ?e ?h);(case S=>walk_at "C");(case o1=>exact tU);(case o2=>rfl);walk_at "I";case h=>intro _;rfl))
 |((with_reducible refine' gE 1 ?hh ?_);(case hh=>assumption);(with_reducible refine' aJ ?o1 ?g ?m bM ?a ?n ?d ?e ?f);(case o1=>exact(qX (T:="list") (U:="tuple")));walk_at "A")
 |((with_reducible refine' gE 2 ?hh ?_);(case hh=>assumption);(with_reducible refine' aJ ?o1 ?g ?m bM ?a ?n ?d ?e ?f);(case o1=>exact(j5 (T:="str")));walk_at "A")
 |((with_reducible refine' gE 3 ?hh ?_);(case hh=>assumption);(with_reducible refine' ee jJ ?a ?b ?c);walk_at "D")
 |((with_reducible refine' gE 4 ?hh ?_);(case hh=>assumption);(with_reducible refine' aJ li ?g ?m lm ?a ?n ?d ?e ?f);walk_at "A")
 |((with_reducible refine' gE 7 ?hh ?_);(case hh=>assumption);(with_reducible refine' aJ qW ?g ?m lm ?a ?n ?d ?e ?f);walk_at "A")
 |((with_reducible refine' gE 10 ?hh ?_);(case hh=>assumption);(with_reducible refine' cY ix_tup ?a ?b ?o1);(case o1=>intro _ _;rfl);walk_at "B")
 |((with_reducible refine' gE 11 ?hh ?_);(case hh=>assumption);(with_reducible refine' dX sS ?a ?b);walk_at "B")
 |((with_reducible refine' gE 13 ?hh ?_);(case hh=>assumption);(with_reducible refine' dX nV ?a ?b);walk_at "B")
 |((with_reducible refine' gE 14 ?hh ?_);(case hh=>assumption);(with_reducible refine' sM ?o1 ?o2 ?o3 ?o4 ?a ?b ?c ?d ?e ?f ?g);(case o1=>exact PySem.F.plainAttrs_str);(case o2=>exact PySem.F.slot_str_join);(case o3=>exact PySem.F.type_str_join);(case o4=>exact wg);walk_at "M")
 |((with_reducible refine' gE 16 ?hh ?_);(case hh=>assumption);(with_reducible refine' ee ?o1 ?a ?b ?c);(case o1=>exact(pC ‹aO _ _›.units0));walk_at "D")
 |((with_reducible refine' gE 17 ?hh ?_);(case hh=>assumption);(with_reducible refine' vC ?o2 ?a ?b ?o1);(case o1=>intro _ _;rfl);(case o2=>exact eE ‹aO _ _›);walk_at "B")
 |((with_reducible refine' gE 21 ?hh ?_);(case hh=>assumption);(with_reducible refine' ee ?o1 ?a ?b ?c);(case o1=>exact(lU (eE ‹aO _ _›)));walk_at "D")
 |((with_reducible refine' gE 23 ?hh ?_);(case hh=>assumption);(with_reducible refine' dX xS ?a ?b);walk_at "B")
 |((with_reducible refine' gE 24 ?hh ?_);(case hh=>assumption);(with_reducible refine' ee ?o1 ?a ?b ?c);(case o1=>exact(pB ‹aO _ _›.units0));walk_at "D")
 |((with_reducible refine' gE 25 ?hh ?_);(case hh=>assumption);(with_reducible refine' dX eY ?a ?b);walk_at "B")
 |((with_reducible refine' gE 27 ?hh ?_);(case hh=>assumption);(with_reducible refine' cY yv ?a ?b ?o1);(case o1=>intro _ _;rfl);walk_at "B")
 |((with_reducible refine' gC ?hh ?_);(case hh=>assumption);intro _;((with_reducible refine' sK ?o1 ?o2 ?S ?i ?g ?e ?h);walk_at "U";case h=>intro _;rfl))
 |((with_reducible refine' gC ?hh ?_);(case hh=>assumption);intro _;((with_reducible refine' sJ ?o1 ?o2 ?S ?i ?g ?e ?f ?h);walk_at "U";(case f=>intro _ _ _ _ _;walk_at "e");case h=>intro _;rfl))
 |((with_reducible refine' gE 29 ?hh ?_);(case hh=>assumption);(with_reducible refine' gt sl_tup ?a ?b ?c);(walk_at "J");(case b=>walk_at "p");case c=>walk_at "p")
 |((with_reducible refine' gE 30 ?hh ?_);(case hh=>assumption);(with_reducible refine' gt xu ?a ?b ?c);(walk_at "J");(case b=>walk_at "p");case c=>walk_at "p")
 |((with_reducible refine' gE 31 ?hh ?_);(case hh=>assumption);(with_reducible refine' aJ ?o1 ?g ?m uR ?a ?n ?d ?e ?f);(case o1=>exact(qU rfl));walk_at "A")
 |((with_reducible refine' gE 32 ?hh ?_);(case hh=>assumption);(with_reducible refine' ee ?o1 ?a ?b ?c);(case o1=>exact(sP (eE ‹aO _ _›)));walk_at "D")
 |((with_reducible refine' gE 34 ?hh ?_);(case hh=>assumption);(with_reducible refine' aJ ?o1 ?g ?m cM ?a ?n ?d ?e ?f);(case o1=>exact(bE ‹aO _ _›));walk_at "A")
 |((with_reducible refine' gE 35 ?hh ?_);(case hh=>assumption);(with_reducible refine' ee ?o1 ?a ?b ?c);(case o1=>exact(kQ (eE ‹aO _ _›)));walk_at "D")
 | walk_at "e0")
local macro_rules | `(tactic| walk_at "t")=>`(tactic| first
 |((with_reducible refine' gT 6 ?hh ?_);(case hh=>assumption);(with_reducible refine' br jJ ?a ?b ?c);walk_at "D")
 |((with_reducible refine' gT 20 ?hh ?_);(case hh=>assumption);(with_reducible refine' br ?o1 ?a ?b ?c);(case o1=>exact(pC ‹aO _ _›.units0));walk_at "D")
 |((with_reducible refine' gT 22 ?hh ?_);(case hh=>assumption);(with_reducible refine' br ?o1 ?a ?b ?c);(case o1=>exact(lU (eE ‹aO _ _›)));walk_at "D")
 |((with_reducible refine' gT 26 ?hh ?_);(case hh=>assumption);(with_reducible refine' br ?o1 ?a ?b ?c);(case o1=>exact(pB ‹aO _ _›.units0));walk_at "D")
 |((with_reducible refine' gT 28 ?hh ?_);(case hh=>assumption);(with_reducible refine' xC ?x ?y);(case x=>refine' qp (eE ‹aO _ _›) ?a ?b;walk_at "B");case y=>with_unfolding_all rfl)
 |((with_reducible refine' gT 33 ?hh ?_);(case hh=>assumption);(with_reducible refine' br ?o1 ?a ?b ?c);(case o1=>exact(sP (eE ‹aO _ _›)));walk_at "D")
 |((with_reducible refine' gT 36 ?hh ?_);(case hh=>assumption);(with_reducible refine' br ?o1 ?a ?b ?c);(case o1=>exact(kQ (eE ‹aO _ _›)));walk_at "D")
 | walk_at "t0")
local macro_rules | `(tactic| walk_at "i")=>`(tactic| first
 |((with_reducible refine' gI 5 ?hh ?_);(case hh=>assumption);(with_reducible refine' xI ?a);walk_at "J")
 |((with_reducible refine' gI 8 ?hh ?_);(case hh=>assumption);(with_reducible refine' xJ ?a);walk_at "J")
 |((with_reducible refine' gI 12 ?hh ?_);(case hh=>assumption);(with_reducible refine' sE ?a);walk_at "J")
 |((with_reducible refine' gI 18 ?hh ?_);(case hh=>assumption);(with_reducible refine' vA ?a);walk_at "J")
 | walk_at "i0")
local macro_rules | `(tactic| walk_at "g")=>`(tactic| first
 |((with_reducible refine' gG 9 ?hh ?_);(case hh=>assumption);(with_reducible refine' xM ?o1 ?a ?b ?c);(case o1=>rfl);(case a=>walk_at "G");(case b=>rfl);case c=>rfl)
 | walk_at "g0")
local macro_rules | `(tactic| walk_at "C")=>`(tactic| refine' AC ?C ?S ?e ?f ?h;(case C=>assumption);(case S=>assumption);(case e=>rfl);(case f=>rfl);case h=>exact⟨rfl,by decide +kernel,by decide +kernel,by decide +kernel,by decide +kernel,rfl,by decide +kernel⟩)
local macro_rules | `(tactic| walk_at "F")=>`(tactic| exact⟨rfl,rfl,rfl,by decide +kernel,rfl,by decide +kernel,by decide +kernel⟩)
local macro_rules | `(tactic| walk_at "q")=>`(tactic| first |((with_reducible refine' d9 ?s ?a ?b ?c);(case a=>walk_at "n");(case s=>(first | (refine' zbb ?h;walk_at "k") | (refine' zba ?h;walk_at "k")));(case b=>exact wm (by decide +kernel));case c=>exact .inr (lookup_relabel_local (by decide +kernel))) | (refine' nU ?r ?y ?z ?x;(case r=>rfl);(case y=>walk_at "Q");(case z=>rfl);case x=>rfl))
local macro_rules | `(tactic| walk_at "Q")=>`(tactic| first | with_reducible exact pk |((with_reducible refine' lP ?a ?b ?c);(case a=>walk_at "q");(case b=>walk_at "Q");case c=>rfl))
section
inductive spCell(vs:List V)(H:Hp)(Q:VK)(e3_:XK):Prop | mk (a:Addr) (ns:List Int) (k:Nat) (_:vs=[.ref a,.int k]) (_:SqL K H a (ns.map V.int)) (_:∀ n,Q (.int n) H)
abbrev fX:Stmt:=top 46
theorem zbc:ai lC8 lC8 (ag fX):=by walk_at "F"
theorem vT(F:ah K mg "_law_cell" fX lC8)(Z:Bl mg):Def P w K mg base "_law_cell" 1 lC8 (spCell (K:=K)):=by
 have SC:=zbc
 refine F.mk' (k:=0) zbc (fun vs H Q E h=>?_) (fun f cdv A outer s H vs Q E hr h=>?_)
 ·obtain⟨a,ns,k,rfl,_⟩:=h
  rfl
 ·obtain⟨a,ns,k,rfl,hS,q⟩:=h
  refine'⟨_,?dv,?_⟩
  case dv=>(walk_at "S2")
  refine⟨_,rfl,_,rfl,a,_,rfl,.inl hS,_,_,rfl,rfl,_,rfl,?_⟩
  refine yw (fun hc=>?_) (fun hc=>q 0)
  have hc:(k:Int)<((ns.map V.int).length:Int):=of_decide_eq_true hc
  rw [YC] at hc
  have hk:k<ns.length:=by omega
  refine⟨_,rfl,_,rfl,a,_,_,_,rfl,rfl,hS,pR (v:=V.int ns[k]) (by simp [hk]),q _⟩
def bf(H:Hp)(p:Addr):Prop:=∃ a b c:Int,H p=some (.lst [.int a,.int b,.int c])∧0≤a∧0≤b∧b<4294967296
inductive spPot(vs:List V)(H:Hp)(Q:VK)(e3_:XK):Prop | mk (n:Int) (_:vs=[.int n]) (_:∀ p H',H p=none→bf H' p→al H H'→Q (.ref p) H')
abbrev g8:Stmt:=top 47
theorem zbd:ai lD4 lD4 (ag g8):=by walk_at "F"
theorem yb(F:ah K mg "_law_pot" g8 lD4)(Z:Bl mg):Def P w K mg base "_law_pot" 1 lD4 spPot:=by
 have SC:=zbd
 refine F.mk' (k:=0) zbd (fun vs H Q E h=>?_) (fun f cdv A outer s H vs Q E hr h=>?_)
 ·obtain⟨n,rfl,_⟩:=h
  rfl
 ·obtain⟨n,rfl,q⟩:=h
  refine'⟨_,?dv,?_⟩
  case dv=>(walk_at "S1")
  refine⟨_,rfl,_,rfl,_,_,rfl,rfl,⟨by decide,by decide,by decide⟩,_,_,rfl,rfl,_,_,rfl,?_⟩
  refine⟨_,rfl,_,rfl,_,_,rfl,rfl,(by show (0:Int)<2147483629; decide),_,_,rfl,rfl,(by show 3≤sizeLine; decide),fun p hp=>?_⟩
  refine q p _ hp ⟨_,_,_,aa,?_,?_,?_⟩ (ac hp _)
  ·split <;> omega
  ·have:=Int.emod_nonneg (if n<0 then -n else n) (b:=2147483629) (by decide)
   omega
  ·have:=Int.emod_lt_of_pos (if n<0 then -n else n) (b:=2147483629) (by decide)
   omega
inductive spDraw(vs:List V)(H:Hp)(Q:VK)(e3_:XK):Prop | mk (p:Addr) (m:Int) (_:vs=[.ref p,.int m]) (_:bf H p) (_:0<m) (_:m<1000) (_:∀ (r:Int) H',0≤r→r<m→bf H' p→av p H H'→Q (.int r) H')
abbrev fW:Stmt:=top 48
theorem zbe:ai ["_law_pot_here","_law_many","_law_digit"] lA5 (ag fW):=by walk_at "F"
theorem vS(F:ah K mg "_law_draw" fW lA5)(Z:Bl mg):Def P w K mg base "_law_draw" 1 lA5 spDraw:=by
 have SC:=zbe
 refine F.mk' (k:=0) zbe (fun vs H Q E h=>?_) (fun f cdv A outer s H vs Q E hr h=>?_)
 ·obtain⟨p,m,rfl,_⟩:=h
  rfl
 ·obtain⟨p,m,rfl,⟨a,b,c,hp,ha,hb,hb2⟩,hm,hm2,q⟩:=h
  refine'⟨_,?dv,?_⟩
  case dv=>(walk_at "S2")
  refine⟨_,rfl,p,_,_,_,rfl,rfl,SqL.of hp,rfl,_,_,rfl,rfl,_,rfl,?_⟩
  refine yw (fun hc=>?_) (fun hc=>?_)
  ·refine⟨_,rfl,p,_,_,_,rfl,rfl,SqL.of hp,rfl,_,rfl,_,_,rfl,⟨hm,by omega⟩,fun t ht=>?_⟩
   have npt:p≠t:=af hp ht
   refine⟨t,_,rfl,SqT.of aa,rfl,_,_,rfl,_,rfl,p,_,_,_,rfl,rfl,(by rw [ae npt]; exact hp),rfl,_,_,rfl,⟨rfl,_,rfl,?_⟩⟩
   refine q _ _ (Int.emod_nonneg _ (by omega)) (Int.emod_lt_of_pos _ hm) ⟨_,_,_,aa,Int.ediv_nonneg ha (by omega),hb,hb2⟩ (fun b o n e=>?_)
   rw [ae n,ae (af e ht)]; exact e
  ·refine⟨_,rfl,p,_,_,_,rfl,rfl,SqL.of hp,rfl,_,_,rfl,rfl,.inr ⟨by decide,by decide⟩,_,_,rfl,rfl,_,_,rfl,rfl,(by show (0:Int)<2147483647; decide),?_⟩
   have g0:0≤(b*48271+11) % 2147483647:=Int.emod_nonneg _ (by decide)
   have g1:(b*48271+11) % 2147483647<2147483647:=Int.emod_lt_of_pos _ (by decide)
   refine⟨_,rfl,p,_,_,_,rfl,rfl,hp,rfl,?_⟩
   refine⟨_,rfl,p,_,_,_,rfl,rfl,SqL.of aa,rfl,_,rfl,p,_,_,_,rfl,rfl,SqL.of aa,rfl,_,_,rfl,rfl,.inl ⟨by omega,by omega⟩,_,_,rfl,rfl,(by show (0:Int)<2147483629; decide),_,_,rfl,rfl,⟨by decide,by decide⟩,_,rfl,_,_,rfl,rfl,hm,?_⟩
   refine q _ _ (Int.emod_nonneg _ (by omega)) (Int.emod_lt_of_pos _ hm) ⟨_,_,_,aa,ha,g0,by omega⟩ (fun b o n e=>?_)
   rw [ae n]; exact e
structure aw(p:Addr)(H H':Hp):Prop where
 pot:bf H' p
 same:av p H H'
theorem bf.keep{H H':Hp}{p:Addr}(h:bf H p)(s:al H H'):bf H' p:=let ⟨a,b,c,e,r⟩:=h; ⟨a,b,c,s _ _ e,r⟩
theorem bf.some{H:Hp}{p:Addr}(h:bf H p):∃ o,H p=some o:=let ⟨_,_,_,e,_⟩:=h; ⟨_,e⟩
inductive spUnlike(vs:List V)(H:Hp)(Q:VK)(e3_:XK):Prop | mk (p a:Addr) (m:Nat) (xs:List Str) (_:vs=[.ref p,.int m,.ref a]) (_:bf H p) (_:SqL K H a (xs.map V.str)) (_:m≤xs.length) (_:xs.length<100) (_:xs.Nodup) (_:∀ l (ys:List Str) H',H l=none→H' l=some (.lst (ys.map V.str))→ys.length=m→ys.Nodup→(∀ y∈ys,y∈xs)→aw p H H'→Q (.ref l) H')
abbrev d6:Stmt:=top 49
theorem zbf:ai ["_law_pot_here","_law_many","_law_menu","_law_left"] lB9 (ag d6):=by walk_at "F"
theorem qv(F:ah K mg "_law_unlike" d6 lB9)(Z:Bl mg)(D_law_draw:Def P w K mg base "_law_draw" 1 lA5 spDraw):Def P w K mg base "_law_unlike" 2 lB9 (spUnlike (K:=K)):=by
 have SC:=zbf
 refine F.mk' (k:=1) zbf (fun vs H Q E h=>?_) (fun f cdv A outer s H vs Q E hr h=>?_)
 ·obtain⟨p,a,m,xs,rfl,_⟩:=h
  rfl
 ·obtain⟨p,a,m,xs,rfl,hp,ha,hm,hx,hn,q⟩:=h
  refine'⟨_,?dv,?_⟩
  case dv=>(have:=bB 198 11 99 1 ["_law_k","_law_pot_here","_law_many","_law_menu","_law_left"]; walk_at "S2")
  refine⟨_,rfl,a,_,rfl,.inl ha,fun L hL=>?_⟩
  refine⟨_,rfl,m,rfl,by omega,by omega,?_⟩
  intro cl C ex s0 H0
  have hpL:p≠L:=by obtain⟨o,e⟩:=hp.some; exact af e hL
  refine bi m (fun i ys H1=>∃ zs ws:List Str,H1 L=some (.lst (zs.map V.str))∧zs.length+i=xs.length∧ys=ws.map V.str∧(ws++zs).Nodup∧(∀ y∈ws++zs,y∈xs)∧aw p H H1) (fun _ _=>True)
   ⟨xs,[],aa,rfl,rfl,hn,fun y hy=>hy,hp.keep (ac hL _),(ac hL _).x⟩ (YE (YE hm (by omega)) (show 100≤sizeLine by decide)) (fun i ys H1 hi _ _=>⟨hi,fun x H' y=>⟨y.1,trivial⟩⟩) (fun _ _ _ _=>YD _) ?_ ?_
  ·rintro i x ys H1 hi _ hy ⟨zs,ws,hzL,hzl,rfl,hnd,hsub,W⟩
   refine⟨_,rfl,.inl ⟨rfl,_,SqL.of hzL⟩,_,rfl,_,rfl,L,_,rfl,.inl (SqL.of hzL),p,_,rfl,W.pot,?_,?_,fun r H2 h0 h1 hp2 s2=>?_⟩
   ·rw [YC]; omega
   ·rw [YC]; omega
   ·rw [YC] at h1
    have hr':r.toNat<zs.length:=by omega
    have hzL2:H2 L=some (.lst (zs.map V.str)):=s2 L _ (Ne.symm hpL) hzL
    refine⟨L,_,r,r.toNat,V.str zs[r.toNat],rfl,rfl,hzL2,by omega,by omega,y3 h0 (by rw [YC]; omega),by simp [hr'],?_⟩
    refine⟨zs.eraseIdx r.toNat,ws++[zs[r.toNat]],?_,?_,by simp,?_,?_,?_,?_⟩
    ·rw [aa,jY]
    ·rw [List.length_eraseIdx_of_lt hr']; omega
    ·have pm:(zs[r.toNat]::zs.eraseIdx r.toNat).Perm zs:=f9 zs _ hr'
     have pm2:(ws++[zs[r.toNat]]++zs.eraseIdx r.toNat).Perm (ws++zs):=by
      rw [X6]
      exact Wz.append_left ws pm
     exact(Wz.nodup_iff pm2).mpr hnd
    ·intro y hy
     refine hsub y ?_
     have pm:(zs[r.toNat]::zs.eraseIdx r.toNat).Perm zs:=f9 zs _ hr'
     have pm2:(ws++[zs[r.toNat]]++zs.eraseIdx r.toNat).Perm (ws++zs):=by
      rw [X6]
      exact Wz.append_left ws pm
     exact(Wz.mem_iff pm2).mp hy
    ·obtain⟨a',b',c',e,r'⟩:=hp2
     exact⟨a',b',c',by rw [ae hpL]; exact e,r'⟩
    ·intro b o n e
     rw [ae (af e hL)]
     exact s2 b o n (W.same b o n e)
  ·rintro ys H1 hy ⟨zs,ws,hzL,hzl,rfl,hnd,hsub,W⟩ D hD
   have hpD:p≠D:=by obtain⟨o,e⟩:=W.pot.some; exact af e hD
   refine q D ws _ (W.same.free (Ne.symm hpD) hD) aa (by simpa using hy) (List.nodup_append.mp hnd).1 (fun y hy=>hsub y (XC _ hy)) ⟨W.pot.keep (ac hD _),W.same.same (ac hD _)⟩
end
def cV(z:Str):Prop:=1≤z.cps.toList.length∧z.cps.toList.length≤12∧∀ c∈z.cps.toList,97≤c∧c≤122
def sayWords:List Str:=["all","some","not","and","or"]
def kW(z:Str):Prop:=cV z∧¬ z∈sayWords
theorem iD(z:Str):z.length=z.cps.toList.length:=by show z.cps.size=_; simp
def abc:Str:=Str.ofString "abcdefghijklmnopqrstuvwxyz"
theorem cQ(z:Str):∀ ws:List Str,inV (V.str z) (ws.map V.str)=decide (z∈ws)
 | []=>rfl
 | x::r=>by
  have ih:=cQ z r
  have e:inV (V.str z) ((x::r).map V.str)=(eqV (V.str x) (V.str z)||inV (V.str z) (r.map V.str)):=rfl
  rw [e,ih]
  have e2:eqV (V.str x) (V.str z)=decide (x=z):=by
   first
    | rfl
    | (unfold eqV; rw [Bool.beq_eq_decide_eq])
    | (unfold eqV; simp)
  rw [e2]
  by_cases h:x=z
  ·subst h; simp
  ·have h':¬ z=x:=fun e=>h e.symm
   simp [h,h']
section
theorem aw.trans{p:Addr}{H H1 H2:Hp}(a:aw p H H1)(b:aw p H1 H2):aw p H H2:=⟨b.pot,a.same.trans b.same⟩
theorem aw.mk1{p:Addr}{H H1 H2:Hp}(a:aw p H H1)(pt:bf H2 p)(s:av p H1 H2):aw p H H2:=⟨pt,a.same.trans s⟩
theorem aw.new{p:Addr}{H H1:Hp}{l:Addr}(a:aw p H H1)(h:H1 l=none)(o:HO):aw p H (upd H1 l o):=⟨a.pot.keep (ac h o),a.same.same (ac h o)⟩
theorem aw.put{p:Addr}{H H1:Hp}{l:Addr}(a:aw p H H1)(n:p≠l)(h:H l=none)(o:HO):aw p H (upd H1 l o):=
 ⟨let ⟨x,y,z,e,r⟩:=a.pot; ⟨x,y,z,by rw [ae n]; exact e,r⟩,fun b u nb e=>by rw [ae (af e h)]; exact a.same b u nb e⟩
theorem aw.ne{p l:Addr}{H H1:Hp}(a:aw p H H1)(h:H1 l=none):p≠l:=by obtain⟨o,e⟩:=a.pot.some; exact af e h
theorem aw.free{p l:Addr}{H H1:Hp}(a:aw p H H1)(h:H1 l=none):H l=none:=a.same.free (Ne.symm (a.ne h)) h
theorem aw.refl{p:Addr}{H:Hp}(h:bf H p):aw p H H:=⟨h,av.refl _ _⟩
theorem aw.at{p l:Addr}{H H1:Hp}{o:HO}(a:aw p H H1)(n:l≠p)(h:H l=some o):H1 l=some o:=a.same l o n h
end
def LT(H:Hp)(a:Addr)(xs:List V):Prop:=H a=some (.lst xs)∨H a=some (.tup xs)
theorem LT.mono{H H':Hp}{a:Addr}{xs:List V}(h:LT H a xs)(k:∀ o,H a=some o→H' a=some o):LT H' a xs:=h.elim (fun e=>.inl (k _ e)) fun e=>.inr (k _ e)
theorem LT.sq{K:WB}{H:Hp}{a:Addr}{xs:List V}(h:LT H a xs):SqL K H a xs∨SqT K H a xs:=h.elim (fun e=>.inl (SqL.of e)) fun e=>.inr (SqT.of e)
theorem LT.isi2{K:WB}{H:Hp}{p:Addr}{xs:List V}(h:LT H p xs):∃ (t:Value),eI K H (.ref p) t∧PySem.W.kitAny K t [.type "list",.type "tuple"]=Option.some true:=by
 rcases h with h | h
 ·exact⟨_,.lst h,qF K⟩
 ·exact⟨_,.tup h,om K⟩
structure q9(H:Hp)(a:Addr)(xs:List V)(J:It):Prop where
 go:∀ i H',(∀ o,H a=Option.some o→H' a=Option.some o)→i<xs.length→J.go i H'∧∀ x H'',J.yld i H' x H''→H''=H'∧xs[i]? = Option.some x
 stop:∀ H',(∀ o,H a=Option.some o→H' a=Option.some o)→J.stop xs.length H'
theorem LT.over{K:WB}{H:Hp}{a:Addr}{xs:List V}{i:Nat}{σ:St}{R:It→Hp→Prop}(h:LT H a xs)(hv:σ[i]? = Option.some (Option.some (.ref a)))(k:∀ J,q9 H a xs J→R J H):yz K (tVar i) σ H R:=by
 rcases h with h | h
 ·exact .inl ⟨_,hv,a,rfl,⟨_,SqL.of h⟩,k _ ⟨fun i H' kp hi=>dF (SqL.of (kp _ h)) hi,fun H' kp=>ck (SqL.of (kp _ h))⟩⟩
 ·exact .inr ⟨_,hv,a,rfl,⟨_,SqT.of h⟩,k _ ⟨fun i H' kp hi=>kZ (SqT.of (kp _ h)) hi,fun H' kp=>gr (SqT.of (kp _ h))⟩⟩
theorem q9.loop{J:It}{H0:Hp}{a:Addr}{xs:List V}{g:TG}{tb:TS}{D:gO}{σ:St}{H:Hp}(O:q9 H0 a xs J)(Pv:Nat→St→Hp→Prop)(h0:Pv 0 σ H)(hl:∀ i σ H,i≤xs.length→Pv i σ H→∀ o,H0 a=Option.some o→H a=Option.some o)
  (hs:∀ i x σ H,xs[i]? = Option.some x→Pv i σ H→g x σ H fun σ2 H2=>tb {D with nx:=Pv (i+1),ct:=Pv (i+1),bk:=D.nx} σ2 H2) (hd:∀ σ H,Pv xs.length σ H→D.nx σ H) :
  ∃ W:Nat→Nat→St→Hp→Prop,(∃ m,W 0 m σ H)∧∀ i m σ H,W i m σ H→
   (J.stop i H∧D.nx σ H)∨(J.go i H∧∃ N:St→Hp→Prop,(∀ σ' H',N σ' H'→∃ m',m'<m∧W (i+1) m' σ' H')∧∀ x H',J.yld i H x H'→g x σ H' fun σ2 H2=>tb {D with nx:=N,ct:=N,bk:=D.nx} σ2 H2):=by
 refine⟨fun i m σ H=>m=xs.length-i∧i≤xs.length∧Pv i σ H,⟨xs.length,by simp,YO _,h0⟩,?_⟩
 rintro i m σ H ⟨rfl,hi,p⟩
 have q:=hl i σ H hi p
 by_cases hlt:i<xs.length
 ·obtain⟨g1,g2⟩:=O.go i H q hlt
  refine .inr ⟨g1,Pv (i+1),fun σ' H' p'=>⟨xs.length - (i+1),by omega,rfl,hlt,p'⟩,fun x H' y=>?_⟩
  obtain⟨e,y'⟩:=g2 x H' y
  subst e
  exact hs i x σ _ y' p
 ·have e:i=xs.length:=by omega
  subst e
  exact .inl ⟨O.stop H q,hd σ H p⟩
theorem q9.comp{J:It}{H0:Hp}{a:Addr}{xs:List V}{te:TE}{σ:St}{H:Hp}{Q:VK}(O:q9 H0 a xs J)(Pv:Nat→List V→Hp→Prop)(h0:Pv 0 [] H)(hz:xs.length≤sizeLine)(hl:∀ i ys H,i≤xs.length→Pv i ys H→∀ o,H0 a=Option.some o→H a=Option.some o)
  (hs:∀ i x ys H,xs[i]? = Option.some x→ys.length=i→Pv i ys H→te (Option.some x::σ) H fun v H3=>Pv (i+1) (ys++[v]) H3)
  (hd:∀ ys H,ys.length=xs.length→Pv xs.length ys H→∀ D,H D=none→Q (.ref D) (upd H D (.lst ys))):gj 1 J (du 0) te σ H Q:=
 bi xs.length Pv (fun i x=>xs[i]? = Option.some x) h0 hz (fun i ys H hi hy p=>O.go i H (hl i ys H (Nat.le_of_lt hi) p) hi) (fun ys H hy p=>O.stop H (hl _ ys H (YD _) p)) (fun i x ys H hi hx hy p=>hs i x ys H hx hy p) hd
theorem ifT{c A B:Prop}[Decidable c](hc:c)(h:A):if c then A else B:=by rw [if_pos hc]; exact h
theorem ifF{c A B:Prop}[Decidable c](hc:¬ c)(h:B):if c then A else B:=by rw [if_neg hc]; exact h
theorem LT.same{H H':Hp}{a:Addr}{xs:List V}(h:LT H a xs)(s:al H H'):LT H' a xs:=h.mono fun o e=>s a o e
theorem zp:∀ i,i<26→(!(Builtin.Str.occurrences abc ⟨#[97+i]⟩ 0 abc.length 1).isEmpty)=true:=by decide +kernel
theorem uq{c:Nat}(h0:97≤c)(h1:c≤122):(!(Builtin.Str.occurrences abc ⟨#[c]⟩ 0 abc.length 1).isEmpty)=true:=by
 have:=zp (c-97) (by omega)
 rwa [show 97+(c-97)=c by omega] at this
structure Gs(K:WB)(mg:Str→Option Value):Prop where
 letters:∃ u,mg "LETTERS"=some u∧ar (.str abc) u
 longest:∃ u,mg "LONGEST_NAME"=some u∧ar (.int 12) u
 mkinds:∃ u,mg "MOST_KINDS"=some u∧ar (.int 4) u
 msigns:∃ u,mg "MOST_SIGNS"=some u∧ar (.int 8) u
 mplaces:∃ u,mg "MOST_PLACES"=some u∧ar (.int 2) u
 words:∃ a,mg "WORDS_OF_SAYINGS"=some (.ref a)∧∀ H,SqT K H a (sayWords.map V.str)
theorem dh:∀ ws:List Str,(ws.map V.str).all dv=true
 | []=>rfl
 | x::r=>by
  show (dv (V.str x)&&(r.map V.str).all dv)=true
  rw [dh r]; rfl
theorem zU:¬ (("kept_ties":Str)="kept_kinds"):=by decide +kernel
theorem zW:¬ (("kept_functions":Str)="kept_kinds"):=by decide +kernel
theorem zV:¬ (("kept_functions":Str)="kept_ties"):=by decide +kernel
def flK(kt:Addr):List (Str×V):=aW "kept_kinds" (.ref kt) []
def flT(kt tt:Addr):List (Str×V):=aW "kept_ties" (.ref tt) (flK kt)
def flF(kt tt ft:Addr):List (Str×V):=aW "kept_functions" (.ref ft) (flT kt tt)
theorem jX(kt:Addr):(flK kt).lookup ("kept_kinds":Str)=some (.ref kt):=by unfold flK; rw [ap,if_pos rfl]
theorem jW(kt tt:Addr):(flT kt tt).lookup ("kept_kinds":Str)=some (.ref kt):=by unfold flT; rw [ap,if_neg (fun z=>zU z.symm)]; exact jX kt
theorem uD(kt tt:Addr):(flT kt tt).lookup ("kept_ties":Str)=some (.ref tt):=by unfold flT; rw [ap,if_pos rfl]
theorem qN(kt tt ft:Addr):(flF kt tt ft).lookup ("kept_kinds":Str)=some (.ref kt):=by unfold flF; rw [ap,if_neg (fun z=>zW z.symm)]; exact jW kt tt
theorem mG(kt tt ft:Addr):(flF kt tt ft).lookup ("kept_ties":Str)=some (.ref tt):=by unfold flF; rw [ap,if_neg (fun z=>zV z.symm)]; exact uD kt tt
theorem mH(kt tt ft:Addr):(flF kt tt ft).lookup ("kept_functions":Str)=some (.ref ft):=by unfold flF; rw [ap,if_pos rfl]
theorem wy(kt:Addr):(flK kt).length<1000:=Xz (aT _ _ _) (by decide)
theorem wx(kt tt:Addr):(flT kt tt).length<1000:=by
 have h1:=aT ("kept_ties":Str) (.ref tt) (flK kt)
 have h2:=aT ("kept_kinds":Str) (.ref kt) []
 unfold flT flK at *
 simp only [List.length_nil] at h2
 omega
theorem uC{kt tt ft:Addr}{m:Str}(h1:¬ m="kept_functions")(h2:¬ m="kept_ties")(h3:¬ m="kept_kinds"):(flF kt tt ft).lookup m=none:=by
 unfold flF flT flK
 rw [ap,if_neg h1,ap,if_neg h2,ap,if_neg h3]
 rfl
abbrev Any:Addr→Prop:=fun _=>True
def gN(H H':Hp):Prop:=∀ a xs,H a=some (.tup xs)→H' a=some (.tup xs)
theorem al.tups{H H':Hp}(s:al H H'):gN H H':=fun a xs e=>s a _ e
theorem lh{K:WB}{H:Hp}{a b:Addr}{xs ys:List V}{Q:VK}(ha:H a=some (.tup xs))(hb:H b=some (.tup ys))(hl:xs.length+ys.length≤sizeLine)(q:∀ p H',H' p=some (.tup (xs++ys))→al H H'→Q (.ref p) H'):rCatTT K (.ref a) (.ref b) H Q:=by
 refine⟨a,b,xs,ys,rfl,rfl,SqT.of ha,SqT.of hb,hl,fun e=>?_,fun _ e=>?_,fun _ _ p hp=>q p _ aa (ac hp _)⟩
 ·subst e; exact q b H hb (al.refl _)
 ·subst e; exact q a H (by rw [XT]; exact ha) (al.refl _)
structure ClS(K:WB)(C:Addr):Prop where
 cl:Cls K C
 nK:ci K C "kept_kinds"
 nT:ci K C "kept_ties"
 nF:ci K C "kept_functions"
local macro_rules | `(tactic| walk_at "K")=>`(tactic| exact ‹ClS _ _›.cl)
structure aq where
 nm:Str
 ps:List Str
structure ao where
 nm:Str
 ps:List Str
 kd:Str
def gq(ws:List Str):List PyData:=ws.map PyData.str
def lF(t:aq):PyData:=.tuple [.str t.nm,.list (gq t.ps)]
def lb(t:ao):PyData:=.tuple [.str t.nm,.list (gq t.ps),.str t.kd]
def pQ(ks:List Str)(ts:List aq)(fs:List ao):PyData:=.tuple [.list (gq ks),.list (ts.map lF),.list (fs.map lb)]
structure aU(ks:List Str)(ts:List aq)(fs:List ao):Prop where
 kn:ks.Nodup
 k1:1≤ks.length
 k4:ks.length≤4
 kn2:∀ k∈ks,cV k
 sn:(ts.map (·.nm)++fs.map (·.nm)).Nodup
 sl:ts.length+fs.length≤8
 tn:∀ t∈ts,kW t.nm∧t.ps.length≤2∧∀ k∈t.ps,k∈ks
 fn:∀ t∈fs,kW t.nm∧t.ps.length≤2∧(∀ k∈t.ps,k∈ks)∧t.kd∈ks
def menuK:List Str:=["a","b","c","all","not","x","kind","size","r","f","abcdefghijkl"]
def menuS:List Str:=["r","s","q","f","g","c","x","say","holds","none","tie","next","zyxwvutsrqpo"]
theorem uf:∀ k∈menuK,cV k:=by unfold cV; decide +kernel
theorem ud:∀ k∈menuS,kW k:=by unfold kW cV; decide +kernel
theorem ug:menuK.Nodup:=by decide +kernel
theorem ue:menuS.Nodup:=by decide +kernel
section
abbrev fY:Stmt:=top 50
theorem zbg:ai ["_law_pot_here","_law_most_kinds","_law_most_signs","_law_menu","_law_kinds","_law_names","_law_ties","_law_functions","_law_name_here","_law_places"] lB5 (ag fY):=by walk_at "F"
inductive spBook(vs:List V)(H:Hp)(Q:VK)(e3_:XK):Prop | mk (p:Addr) (mk ms:Nat) (_:vs=[.ref p,.int mk,.int ms]) (_:bf H p) (_:1≤mk) (_:mk≤4) (_:ms≤8) (_:∀ v H' ks ts fs,RdV (fun a=>H a=none) H' v (pQ ks ts fs)→aU ks ts fs→ks.length≤mk→ts.length+fs.length≤ms→aw p H H'→Q v H')
theorem vU(F:ah K mg "_law_book" fY lB5)(Z:Bl mg)(D_law_draw:Def P w K mg base "_law_draw" 1 lA5 spDraw)
  (D_law_unlike:Def P w K mg base "_law_unlike" 2 lB9 (spUnlike (K:=K))) :
  Def P w K mg base "_law_book" 3 lB5 spBook:=by
 have SC:=zbg
 refine F.mk' (k:=2) zbg (fun vs H Q E h=>?_) (fun f cdv A outer s H vs Q E hr h=>?_)
 ·obtain⟨p,mk,ms,rfl,_⟩:=h
  rfl
 ·obtain⟨p,mk,ms,rfl,hp,hm1,hm4,hms,q⟩:=h
  refine'⟨_,?dv,?_⟩
  case dv=>(have:=bB 207 8 140 1 ["_law_k","_law_pot_here","_law_most_kinds","_law_most_signs","_law_menu","_law_kinds","_law_names","_law_ties","_law_functions","_law_name_here","_law_places"]; walk_at "S2")
  refine⟨by show 11≤sizeLine; decide,fun M1 hM1=>?_⟩
  have W1:=(aw.refl hp).new hM1 (.lst (menuK.map V.str))
  refine⟨_,rfl,_,rfl,_,rfl,p,_,rfl,W1.pot,by omega,by omega,fun r1 H1 a0 a1 hp1 s1=>?_⟩
  have W2:=W1.mk1 hp1 s1
  have hM1':H1 M1=some (.lst (menuK.map V.str)):=s1 M1 _ (Ne.symm ((aw.refl hp).ne hM1)) aa
  refine⟨_,_,rfl,rfl,_,rfl,p,M1,(1+r1).toNat,menuK,?_,hp1,SqL.of hM1',?_,by decide,ug,fun kA ks H2 hkA hkA2 hkl hknd hkin W3=>?_⟩
  ·show [V.ref p,V.int (1+r1),V.ref M1]=_
   rw [Int.toNat_of_nonneg (by omega)]
  ·show (1+r1).toNat≤11
   omega
  have W4:=W2.trans W3
  have kfree:H kA=none:=W2.free hkA
  have npk:kA≠p:=by rintro rfl; obtain⟨o,e⟩:=hp.some; rw [kfree] at e; cases e
  have hknm:∀ k∈ks,cV k:=fun k hk=>uf k (hkin k hk)
  generalize hH3:H2=H3 at *
  have hk3:=hkA2
  have W5:=W4
  refine⟨by show 13≤sizeLine; decide,fun M2 hM2=>?_⟩
  have W6:=W5.new hM2 (.lst (menuS.map V.str))
  have hk6:(upd H3 M2 (.lst (menuS.map V.str))) kA=some (.lst (ks.map V.str)):=by rw [ae (af hk3 hM2)]; exact hk3
  refine⟨_,rfl,_,rfl,_,rfl,_,_,rfl,rfl,p,_,rfl,W6.pot,by omega,by omega,fun r3 H7 c0 c1 hp7 s7=>?_⟩
  have W7:=W6.mk1 hp7 s7
  have hM7:H7 M2=some (.lst (menuS.map V.str)):=s7 M2 _ (Ne.symm (W5.ne hM2)) aa
  have hk7:H7 kA=some (.lst (ks.map V.str)):=s7 kA _ npk hk6
  refine⟨_,rfl,p,M2,r3.toNat,menuS,?_,hp7,SqL.of hM7,?_,by decide,ue,fun nA ns H8 hnA hnA2 hnl hnnd hnin W8=>?_⟩
  ·show [V.ref p,V.int r3,V.ref M2]=_
   rw [Int.toNat_of_nonneg c0]
  ·show r3.toNat≤13
   omega
  have W9:=W7.trans W8
  have nfree:H nA=none:=W7.free hnA
  have npn:nA≠p:=by rintro rfl; obtain⟨o,e⟩:=hp.some; rw [nfree] at e; cases e
  have hk8:H8 kA=some (.lst (ks.map V.str)):=W8.at npk hk7
  have hnsg:∀ k∈ns,kW k:=fun k hk=>ud k (hnin k hk)
  have hn9:=hnA2
  have hk9:=hk8
  have W10:=W9
  refine⟨by show 0≤sizeLine; decide,fun tA htA=>?_⟩
  have W11:=W10.new htA (.lst [])
  refine⟨by show 0≤sizeLine; decide,fun fA hfA=>?_⟩
  have W12:=W11.new hfA (.lst [])
  have tfree:H tA=none:=W10.free htA
  have ffree:H fA=none:=W11.free hfA
  have ntf:tA≠fA:=af aa hfA
  have hpt:p≠tA:=W10.ne htA
  have hpf:p≠fA:=W11.ne hfA
  have nkt:kA≠tA:=af hk9 htA
  have nkf:kA≠fA:=af (by rw [ae nkt]; exact hk9) hfA
  have nnt:nA≠tA:=af hn9 htA
  have nnf:nA≠fA:=af (by rw [ae nnt]; exact hn9) hfA
  have pne:∀ a,H a=none→a≠p:=fun a e=>by rintro rfl; obtain⟨o,e2⟩:=hp.some; rw [e] at e2; cases e2
  have keepR:∀ {H2 H3:Hp} {xs:List V} {ds:List PyData},av p H2 H3→RdA (fun a=>H a=none∧a≠tA∧a≠fA) H2 xs ds→RdA (fun a=>H a=none∧a≠tA∧a≠fA) H3 xs ds:=fun s r=>r.mono (fun _ z=>z) fun a o z e=>s a o (pne a z.1) e
  refine⟨_,rfl,nA,rfl,⟨_,SqL.of (by rw [ae nnf,ae nnt]; exact hn9)⟩,jm (K:=K) (a:=nA) (xs:=ns.map V.str) (fun i σ H2=>∃ (ts:List aq) (fs:List ao) (tv fv:List V) (v8 v9:Option V),σ=[some (.ref p),some (.int mk),some (.int ms),some (.ref M2),some (.ref kA),some (.ref nA),some (.ref tA),some (.ref fA),v8,v9]∧
    H2 tA=some (.lst tv)∧RdA (fun a=>H a=none∧a≠tA∧a≠fA) H2 tv (ts.map lF)∧H2 fA=some (.lst fv)∧RdA (fun a=>H a=none∧a≠tA∧a≠fA) H2 fv (fs.map lb)∧
    (ts.map (·.nm)++fs.map (·.nm)).Perm (ns.take i)∧(∀ t∈ts,kW t.nm∧t.ps.length≤2∧∀ k∈t.ps,k∈ks)∧(∀ t∈fs,kW t.nm∧t.ps.length≤2∧(∀ k∈t.ps,k∈ks)∧t.kd∈ks)∧H2 kA=some (.lst (ks.map V.str))∧H2 nA=some (.lst (ns.map V.str))∧aw p H H2)
   ⟨[],[],[],[],none,none,rfl,(by rw [ae ntf]; exact aa),.nil,aa,.nil,(by simp),(fun _ h=>nomatch h),(fun _ h=>nomatch h),(by rw [ae nkf,ae nkt]; exact hk9),(by rw [ae nnf,ae nnt]; exact hn9),W12⟩
   (by rintro i σ H2 _ ⟨_,_,_,_,_,_,_,_,_,_,_,_,_,_,_,z,_⟩;exact SqL.of z) ?_ ?_⟩
  ·rintro i y σ H2 hi ⟨ts,fs,tv,fv,v8,v9,rfl,hT,rT,hF,rF,hperm,okT,okF,hK,hN,W⟩
   have hil:i<ns.length:=by have:=(YV.mp hi).1; simpa using this
   obtain rfl:y=V.str ns[i]:=by
    have : (ns.map V.str)[i]? = some (V.str ns[i]):=by simp [hil]
    rw [this] at hi; exact(Option.some.inj hi).symm
   have lenT:ts.length+fs.length=i:=by
    have:=hperm.length_eq
    simp only [YY,YC,XX] at this
    omega
   have tvl:tv.length=ts.length:=by rw [rT.length,YC]
   have fvl:fv.length=fs.length:=by rw [rF.length,YC]
   have n8:ns.length≤8:=by omega
   refine⟨by show 4≤sizeLine; decide,fun L hL=>?_⟩
   have V1:=(aw.refl W.pot).new hL (.lst [.int 0,.int 1,.int 1,.int 2])
   refine⟨_,rfl,p,_,rfl,V1.pot,by decide,by decide,fun r5 H10 e0 e1 hp10 s10=>?_⟩
   have V2:=V1.mk1 hp10 s10
   have hL10:H10 L=some (.lst [.int 0,.int 1,.int 1,.int 2]):=s10 L _ (Ne.symm ((aw.refl W.pot).ne hL)) aa
   obtain⟨c,hc,hc0,hc2⟩:∃ c:Int,atI [V.int 0,V.int 1,V.int 1,V.int 2] r5=some (V.int c)∧0≤c∧c≤2:=by
    have h4:r5=0∨r5=1∨r5=2∨r5=3:=by omega
    rcases h4 with rfl | rfl | rfl | rfl
    ·exact⟨0,rfl,by decide,by decide⟩
    ·exact⟨1,rfl,by decide,by decide⟩
    ·exact⟨1,rfl,by decide,by decide⟩
    ·exact⟨2,rfl,by decide,by decide⟩
   refine⟨L,_,r5,_,rfl,rfl,SqL.of hL10,hc,c,rfl,by omega,by omega,?_⟩
   intro cl C ex sc Hc
   refine bi c.toNat (fun j ys H11=>∃ us:List Str,ys=us.map V.str∧(∀ u∈us,u∈ks)∧aw p H2 H11) (fun _ _=>True)
    ⟨[],rfl,(fun _ h=>nomatch h),V2⟩ (YE (show c.toNat≤100 by omega) (show 100≤sizeLine by decide)) (fun i ys H1 hi _ _=>⟨hi,fun x H' y=>⟨y.1,trivial⟩⟩) (fun _ _ _ _=>YD _) ?_ ?_
   ·rintro j x ys H11 hj _ hy ⟨us,rfl,hus,V3⟩
    have hK11:H11 kA=some (.lst (ks.map V.str)):=V3.at npk hK
    refine⟨_,rfl,_,rfl,_,rfl,kA,_,rfl,.inl (SqL.of hK11),p,_,rfl,V3.pot,by rw [YC]; omega,by rw [YC]; omega,fun r6 H12 g0 g1 hp12 s12=>?_⟩
    rw [YC] at g1
    have hr6:r6.toNat<ks.length:=by omega
    refine⟨kA,_,r6,V.str ks[r6.toNat],rfl,rfl,SqL.of (s12 kA _ npk hK11),aH g0 (by simp [hr6]),us++[ks[r6.toNat]],by simp,fun u hu=>?_,V3.mk1 hp12 s12⟩
    rcases Y3.mp hu with hu | hu
    ·exact hus u hu
    ·rw [YK.mp hu]; exact XL hr6
   rintro ys H11 hy ⟨us,rfl,hus,V3⟩ D hD
   have hul:us.length≤2:=by
    have : us.length=c.toNat:=by simpa using hy
    omega
   have V4:=V3.new hD (.lst (us.map V.str))
   have W4:aw p H (upd H11 D (.lst (us.map V.str))):=⟨V4.pot,W.same.trans V4.same⟩
   refine⟨_,rfl,p,_,rfl,V4.pot,by decide,by decide,fun r7 H13 k0 k1 hp13 s13=>?_⟩
   refine⟨_,_,rfl,rfl,_,rfl,?_⟩
   have V5:=V4.mk1 hp13 s13
   have W5:aw p H H13:=⟨hp13,W4.same.trans s13⟩
   have hT13:H13 tA=some (.lst tv):=V5.at (Ne.symm hpt) hT
   have hF13:H13 fA=some (.lst fv):=V5.at (Ne.symm hpf) hF
   have hK13:H13 kA=some (.lst (ks.map V.str)):=V5.at npk hK
   have hN13:H13 nA=some (.lst (ns.map V.str)):=V5.at npn hN
   have rT13:=keepR V5.same rT
   have rF13:=keepR V5.same rF
   have nDp:D≠p:=Ne.symm (V3.ne hD)
   have hD13:H13 D=some (.lst (us.map V.str)):=s13 D _ nDp aa
   have hDfree:H D=none:=(show aw p H H11 from ⟨V3.pot,W.same.trans V3.same⟩).free hD
   have nDt:D≠tA:=by rintro rfl; rw [V3.at (Ne.symm hpt) hT] at hD; cases hD
   have nDf:D≠fA:=by rintro rfl; rw [V3.at (Ne.symm hpf) hF] at hD; cases hD
   have ptake:ns.take (i+1)=ns.take i++[ns[i]]:=by rw [Y7]; simp [hil]
   refine yw (fun _=>?_) (fun _=>?_)
   ·
    refine⟨_,rfl,.inl ⟨rfl,_,SqL.of hT13⟩,_,rfl,_,rfl,by show 2≤sizeLine; decide,fun T hTn=>?_⟩
    have nTp:=W5.ne hTn
    have nTt:T≠tA:=by rintro rfl; rw [hT13] at hTn; cases hTn
    have nTf:T≠fA:=by rintro rfl; rw [hF13] at hTn; cases hTn
    have W6:=W5.new hTn (.tup [.str ns[i],.ref D])
    refine⟨tA,tv,_,rfl,rfl,by rw [ae (Ne.symm nTt)]; exact hT13,Y2 (show tv.length<100 by omega) (by decide),?_⟩
    have W7:=W6.put hpt tfree (.lst (tv++[.ref T]))
    have st:∀ a o,(H a=none∧a≠tA∧a≠fA)→H13 a=some o→(upd (upd H13 T (.tup [.str ns[i],.ref D])) tA (.lst (tv++[.ref T]))) a=some o:=fun a o z e=>by rw [ae z.2.1,ae (af e hTn)]; exact e
    refine⟨ts++[⟨ns[i],us⟩],fs,tv++[.ref T],fv,_,_,rfl,aa,?_,?_,?_,?_,?_,okF,?_,?_,W7⟩
    ·rw [Y1]
     refine(rT13.mono (fun _ z=>z) st).snoc (.tup ⟨W5.free hTn,nTt,nTf⟩ (by rw [ae nTt]; exact aa) (.cons (.str _) (.cons (.lst ⟨hDfree,nDt,nDf⟩ (st D _ ⟨hDfree,nDt,nDf⟩ hD13) (RdA.strs us)) .nil)))
    ·rw [ae (Ne.symm ntf),ae (Ne.symm nTf)]; exact hF13
    ·exact rF13.mono (fun _ z=>z) st
    ·rw [Y1,Y9,List.map_nil,ptake,X6]
     refine(Wz.append_left _ List.perm_append_comm).trans ?_
     rw [← X6]
     exact Wz.append_right _ hperm
    ·intro t ht
     rcases Y3.mp ht with ht | ht
     ·exact okT t ht
     ·rw [YK.mp ht]; exact⟨hnsg _ (XL hil),hul,hus⟩
    ·rw [ae nkt,ae (af hK13 hTn)]; exact hK13
    ·rw [ae nnt,ae (af hN13 hTn)]; exact hN13
   ·
    refine⟨_,rfl,.inl ⟨rfl,_,SqL.of hF13⟩,_,rfl,_,rfl,_,rfl,_,rfl,_,rfl,kA,_,rfl,.inl (SqL.of hK13),p,_,rfl,hp13,by rw [YC]; omega,by rw [YC]; omega,fun r8 H14 m0 m1 hp14 s14=>?_⟩
    rw [YC] at m1
    have hr8:r8.toNat<ks.length:=by omega
    have hK14:=s14 kA _ npk hK13
    have hT14:=s14 tA _ (Ne.symm hpt) hT13
    have hF14:=s14 fA _ (Ne.symm hpf) hF13
    have hN14:=s14 nA _ npn hN13
    have rT14:=keepR s14 rT13
    have rF14:=keepR s14 rF13
    have hD14:=s14 D _ nDp hD13
    have W6:=W5.mk1 hp14 s14
    refine⟨kA,_,r8,V.str ks[r8.toNat],rfl,rfl,SqL.of hK14,aH m0 (by simp [hr8]),by show 3≤sizeLine; decide,fun T hTn=>?_⟩
    have nTt:T≠tA:=by rintro rfl; rw [hT14] at hTn; cases hTn
    have nTf:T≠fA:=by rintro rfl; rw [hF14] at hTn; cases hTn
    have W7:=W6.new hTn (.tup [.str ns[i],.ref D,.str ks[r8.toNat]])
    refine⟨fA,fv,_,rfl,rfl,by rw [ae (Ne.symm nTf)]; exact hF14,Y2 (show fv.length<100 by omega) (by decide),?_⟩
    have W8:=W7.put hpf ffree (.lst (fv++[.ref T]))
    have st:∀ a o,(H a=none∧a≠tA∧a≠fA)→H14 a=some o→(upd (upd H14 T (.tup [.str ns[i],.ref D,.str ks[r8.toNat]])) fA (.lst (fv++[.ref T]))) a=some o:=fun a o z e=>by rw [ae z.2.2,ae (af e hTn)]; exact e
    refine⟨ts,fs++[⟨ns[i],us,ks[r8.toNat]⟩],tv,fv++[.ref T],_,_,rfl,?_,?_,aa,?_,?_,okT,?_,?_,?_,W8⟩
    ·rw [ae ntf,ae (Ne.symm nTt)]; exact hT14
    ·exact rT14.mono (fun _ z=>z) st
    ·rw [Y1]
     refine(rF14.mono (fun _ z=>z) st).snoc (.tup ⟨W6.free hTn,nTt,nTf⟩ (by rw [ae nTf]; exact aa) (.cons (.str _) (.cons (.lst ⟨hDfree,nDt,nDf⟩ (st D _ ⟨hDfree,nDt,nDf⟩ hD14) (RdA.strs us)) (.cons (.str _) .nil))))
    ·rw [Y1,Y9,List.map_nil,ptake,← X6]
     exact Wz.append_right _ hperm
    ·intro t ht
     rcases Y3.mp ht with ht | ht
     ·exact okF t ht
     ·rw [YK.mp ht]; exact⟨hnsg _ (XL hil),hul,hus,XL hr8⟩
    ·rw [ae nkf,ae (af hK14 hTn)]; exact hK14
    ·rw [ae nnf,ae (af hN14 hTn)]; exact hN14
  ·rintro σ H2 ⟨ts,fs,tv,fv,v8,v9,rfl,hT,rT,hF,rF,hperm,okT,okF,hK,hN,W⟩
   rw [YC,Y8] at hperm
   have lenT:ts.length+fs.length=ns.length:=by
    have:=hperm.length_eq
    simpa using this
   refine⟨_,rfl,_,rfl,_,rfl,by show 3≤sizeLine; decide,fun B hB=>?_⟩
   have hs:=ac hB (.tup [.ref kA,.ref tA,.ref fA])
   refine q _ _ ks ts fs (.tup (W.free hB) aa (.cons (.lst kfree (hs _ _ hK) (RdA.strs ks)) (.cons (.lst tfree (hs _ _ hT) (rT.mono (fun _ z=>z.1) fun a o _ e=>hs a o e)) (.cons (.lst ffree (hs _ _ hF) (rF.mono (fun _ z=>z.1) fun a o _ e=>hs a o e)) .nil))))
    ⟨hknd,by omega,by omega,hknm,(Wz.nodup_iff hperm).mpr hnnd,by omega,okT,okF⟩ (by omega) (by omega) (W.new hB _)
end
structure ls where
 nm:Str
 ps:List Str
 rest:List Str
def rJ(t:aq):ls:=⟨t.nm,t.ps,[]⟩
def uA(t:ao):ls:=⟨t.nm,t.ps,[t.kd]⟩
def fG(t:aq):PyData:=.tuple [.str t.nm,.tuple (gq t.ps)]
def ge(t:ao):PyData:=.tuple [.str t.nm,.tuple (gq t.ps),.str t.kd]
structure wQ(H:Hp)(q:Addr×Addr)(r:ls):Prop where
 row:LT H q.1 (.str r.nm::.ref q.2::r.rest.map V.str)
 plc:LT H q.2 (r.ps.map V.str)
inductive Sgs(H:Hp):List (Addr×Addr)→List ls→Prop where
 | nil:Sgs H [] []
 | cons {q:Addr×Addr} {r:ls} {ab:List (Addr×Addr)} {rs:List ls}:wQ H q r→Sgs H ab rs→Sgs H (q::ab) (r::rs)
theorem Sgs.length{H:Hp}:∀ {ab:List (Addr×Addr)} {rs:List ls},Sgs H ab rs→ab.length=rs.length
 | _,_,.nil=>rfl
 | _,_,.cons _ t=>by rw [YR,YR,Sgs.length t]
theorem Sgs.get{H:Hp}:∀ {ab:List (Addr×Addr)} {rs:List ls} {i:Nat} {q:Addr×Addr},Sgs H ab rs→ab[i]? = some q→∃ r,rs[i]? = some r∧wQ H q r
 | _,_,_,_,.nil,h=>by simp at h
 | _,_,0,_,.cons a t,h=>by simp at h; subst h; exact⟨_,rfl,a⟩
 | _,_,i+1,_,.cons a t,h=>by simpa using Sgs.get (i:=i) t (by simpa using h)
section
abbrev fu:Stmt:=top 14
theorem zbh:ai lB0 lB0 (ag fu):=by walk_at "F"
inductive spIsList(vs:List V)(H:Hp)(Q:VK)(e3_:XK):Prop | mk (a:Addr) (xs:List V) (_:vs=[.ref a]) (_:LT H a xs) (_:∀ H',al H H'→Q (.bl true) H')
theorem nY(F:ah K mg "is_list" fu lB0)(Z:Bl mg):Def P w K mg base "is_list" 1 lB0 spIsList:=by
 have SC:=zbh
 refine F.mk' (k:=0) zbh (fun vs H Q E h=>?_) (fun f cdv A outer s H vs Q E hr h=>?_)
 ·obtain⟨a,xs,rfl,_⟩:=h
  rfl
 ·obtain⟨a,xs,rfl,hL,q⟩:=h
  refine'⟨_,?dv,?_⟩
  case dv=>(have:=aj 1 30 11 43; walk_at "S1")
  refine⟨_,rfl,by show 2≤sizeLine; decide,fun t ht=>?_⟩
  have st:=ac ht (.tup [.ty "list",.ty "tuple"])
  obtain⟨ty,hty,hk⟩:=(hL.same st).isi2 (K:=K)
  exact⟨_,t,ty,true,rfl,aa,hty,hk,q _ st⟩
abbrev fq:Stmt:=top 15
theorem zbi:ai lB0 lB0 (ag fq):=by walk_at "F"
inductive spIsName(vs:List V)(H:Hp)(Q:VK)(e3_:XK):Prop | mk (z:Str) (_:vs=[.str z]) (_:cV z) (_:∀ H',al H H'→Q (.bl true) H')
theorem nX(F:ah K mg "is_name" fq lB0)(Z:Bl mg)(G:Gs K mg):Def P w K mg base "is_name" 1 lB0 spIsName:=by
 have SC:=zbi
 obtain⟨_,g_LETTERS,r_LETTERS⟩:=G.letters
 obtain⟨_,g_LONGEST_NAME,r_LONGEST_NAME⟩:=G.longest
 refine F.mk' (k:=0) zbi (fun vs H Q E h=>?_) (fun f cdv A outer s H vs Q E hr h=>?_)
 ·obtain⟨z,rfl,_⟩:=h
  rfl
 ·obtain⟨z,rfl,⟨h1,h2,h3⟩,q⟩:=h
  have hz:=iD z
  have hcs:z.cps.size=z.cps.toList.length:=by simp
  refine'⟨_,?dv,?_⟩
  case dv=>(have:=aj 2 32 11 33; have:=aj 3 34 16 31; have:=aj 4 32 46 56; have:=bB 34 15 50 1 ["sign","thing"]; have:=aj 5 34 44 49; have:=aj 6 34 16 31; walk_at "S2")
  refine⟨_,rfl,_,_,_,rfl,.str _,gw K,true,rfl,dz ?_⟩
  refine⟨_,rfl,_,rfl,YE (show z.length≤12 by omega) (by decide),_,_,rfl,rfl,_,rfl,ifT (decide_eq_true (by omega)) ?_⟩
  refine⟨_,_,rfl,rfl,_,rfl,ifF (by simp; omega) ?_⟩
  refine⟨_,rfl,z,rfl,?_⟩
  intro cl C ex s0 H0
  refine bi z.cps.size (fun i ys H1=>ys=(List.replicate i true).map V.bl∧H1=H) (fun i x=>∃ c,z.cps[i]? = some c∧x=.str ⟨#[c]⟩) ⟨rfl,rfl⟩ (YE (show z.cps.size≤12 by omega) (by decide)) (fun i ys H1 hi _ _=>oq hi) (fun ys H1 _ _=>iT) ?_ ?_
  ·rintro i x ys H1 hi ⟨c,hc,rfl⟩ hy ⟨rfl,rfl⟩
   have hm:c∈z.cps.toList:=by
    have : z.cps.toList[i]? = some c:=by simpa using hc
    exact YU this
   obtain⟨c0,c1⟩:=h3 c hm
   refine⟨_,rfl,_,_,rfl,rfl,?_,rfl⟩
   rw [uq c0 c1,List.replicate_succ',Y1]
   rfl
  ·rintro ys H1 hy ⟨rfl,rfl⟩ D hD
   refine⟨D,List.replicate z.cps.size true,rfl,SqL.of aa,?_⟩
   have e:(List.replicate z.cps.size true).all id=true:=by simp
   rw [e]
   exact q _ (ac hD _)
abbrev dN:Stmt:=top 42
theorem zbj:ai lE6 lE6 (ag dN):=by walk_at "F"
inductive spApart(vs:List V)(H:Hp)(Q:VK)(e3_:XK):Prop | mk (a:Addr) (ws:List Str) (_:vs=[.ref a]) (_:LT H a (ws.map V.str)) (_:ws.Nodup) (_:ws.length≤1000) (_:∀ H',al H H'→Q .non H')
theorem tT(F:ah K mg "check_apart" dN lE6)(Z:Bl mg):Def P w K mg base "check_apart" 1 lE6 spApart:=by
 have SC:=zbj
 refine F.mk' (k:=0) zbj (fun vs H Q E h=>?_) (fun f cdv A outer s H vs Q E hr h=>?_)
 ·obtain⟨a,ws,rfl,_⟩:=h
  rfl
 ·obtain⟨a,ws,rfl,hL,hnd,hl,q⟩:=h
  refine'⟨_,?dv,?_⟩
  case dv=>(have:=aj 7 169 7 22; walk_at "S1")
  refine⟨_,rfl,a,ws,rfl,hL.sq,Xz (show ws.length+1≤1001 by omega) (by decide),fun d hd=>?_⟩
  have st:=ac hd (yK P w d ws)
  refine⟨d,ws,rfl,aa,?_⟩
  refine⟨_,rfl,a,_,rfl,(hL.same st).sq,rfl,_,rfl,?_⟩
  have e:(ws.foldl cD []).length=ws.length:=by rw [iw ws [] hnd (fun _ _ z=>nomatch z)]; simp
  refine ifF ?_ (q _ st)
  rw [e,YC]
  simp
abbrev cT:Stmt:=top 36
theorem zbk:ai lD1 lE9 (ag cT):=by walk_at "F"
structure wS(ks:List Str):Prop where
 kn:ks.Nodup
 k1:1≤ks.length
 k4:ks.length≤4
 kn2:∀ k∈ks,cV k
inductive spKinds(vs:List V)(H:Hp)(Q:VK)(e3_:XK):Prop | mk (a:Addr) (ks:List Str) (_:vs=[.ref a]) (_:LT H a (ks.map V.str)) (_:wS ks) (_:∀ t H',H' t=some (.tup (ks.map V.str))→al H H'→Q (.ref t) H')
theorem tO(F:ah K mg "checked_kinds" cT lE9)(Z:Bl mg)(G:Gs K mg)(D_is_list:Def P w K mg base "is_list" 1 lB0 spIsList)(D_is_name:Def P w K mg base "is_name" 1 lB0 spIsName)(D_check_apart:Def P w K mg base "check_apart" 1 lE6 spApart):
  Def P w K mg base "checked_kinds" 2 lE9 spKinds:=by
 have SC:=zbk
 obtain⟨_,g_MOST_KINDS,r_MOST_KINDS⟩:=G.mkinds
 refine F.mk' (k:=1) zbk (fun vs H Q E h=>?_) (fun f cdv A outer s H vs Q E hr h=>?_)
 ·obtain⟨a,ks,rfl,_⟩:=h
  rfl
 ·obtain⟨a,ks,rfl,hL,ok,q⟩:=h
  have k1:=ok.k1
  have k4:=ok.k4
  refine'⟨_,?dv,?_⟩
  case dv=>(have:=aj 8 141 16 21; walk_at "S2")
  refine⟨_,rfl,a,_,rfl,hL,fun H1 s1=>⟨true,rfl,dz ?_⟩⟩
  refine⟨_,rfl,a,_,rfl,(hL.same s1).sq,_,_,rfl,rfl,_,rfl,ifT (decide_eq_true (by rw [YC]; omega)) ?_⟩
  refine⟨_,_,rfl,rfl,_,rfl,ifF (by rw [YC]; simp; omega) ?_⟩
  refine(hL.same s1).over rfl fun J O=>O.loop (fun j σ H2=>∃ v,σ=[some (.ref a),v]∧al H1 H2) ⟨_,rfl,al.refl _⟩ (fun j σ H2 _ ⟨_,_,z⟩ o e=>z a o e) ?_ ?_
  ·rintro i x σ H2 hi ⟨v,rfl,s2⟩
   rw [YZ] at hi
   obtain⟨k,hk,rfl⟩:=YS.mp hi
   refine⟨_,rfl,k,rfl,ok.kn2 k (YU hk),fun H3 s3=>⟨true,rfl,dz ?_⟩⟩
   exact⟨_,rfl,s2.trans s3⟩
  ·rintro σ H2 ⟨v,rfl,s2⟩
   refine⟨_,rfl,a,ks,rfl,(hL.same s1).same s2,ok.kn,by omega,fun H3 s3=>?_⟩
   have s03:=(s1.trans s2).trans s3
   refine⟨_,rfl,a,ks.map V.str,rfl,?_⟩
   rcases hL.same s03 with e | e
   ·exact .inl ⟨SqL.of e,fun l hl=>q l _ aa (s03.trans (ac hl _))⟩
   ·exact .inr ⟨SqT.of e,q a _ e s03⟩
abbrev dq:Stmt:=top 41
theorem zbl:ai lD1 lD1 (ag dq):=by walk_at "F"
inductive spKind(vs:List V)(H:Hp)(Q:VK)(e3_:XK):Prop | mk (a:Addr) (ks:List Str) (k:Str) (_:vs=[.ref a,.str k]) (_:LT H a (ks.map V.str)) (_:cV k) (_:k∈ks) (_:∀ H',al H H'→Q (.str k) H')
theorem vO(F:ah K mg "checked_kind" dq lD1)(Z:Bl mg)(D_is_name:Def P w K mg base "is_name" 1 lB0 spIsName):Def P w K mg base "checked_kind" 2 lD1 spKind:=by
 have SC:=zbl
 refine F.mk' (k:=1) zbl (fun vs H Q E h=>?_) (fun f cdv A outer s H vs Q E hr h=>?_)
 ·obtain⟨a,ks,k,rfl,_⟩:=h
  rfl
 ·obtain⟨a,ks,k,rfl,hL,hn,hk,q⟩:=h
  refine'⟨_,?dv,?_⟩
  case dv=>(walk_at "S2")
  refine⟨_,rfl,k,rfl,hn,fun H1 s1=>⟨true,rfl,dz ?_⟩⟩
  refine⟨_,rfl,_,rfl,a,_,rfl,(hL.same s1).sq,rfl,dh ks,_,rfl,ifF ?_ ⟨_,rfl,q _ s1⟩⟩
  rw [cQ,decide_eq_true hk]
  decide
abbrev cG:Stmt:=top 40
theorem zbm:ai lD3 lD3 (ag cG):=by walk_at "F"
inductive spPlaces(vs:List V)(H:Hp)(Q:VK)(e3_:XK):Prop | mk (a b:Addr) (ks ps:List Str) (_:vs=[.ref a,.ref b]) (_:LT H a (ks.map V.str)) (_:(∀ k∈ks,cV k)) (_:LT H b (ps.map V.str)) (_:ps.length≤2) (_:(∀ k∈ps,k∈ks)) (_:∀ t H',H' t=some (.tup (ps.map V.str))→al H H'→Q (.ref t) H')
theorem qz(F:ah K mg "checked_places" cG lD3)(Z:Bl mg)(G:Gs K mg)(D_is_list:Def P w K mg base "is_list" 1 lB0 spIsList)(D_checked_kind:Def P w K mg base "checked_kind" 2 lD1 spKind):Def P w K mg base "checked_places" 3 lD3 spPlaces:=by
 have SC:=zbm
 obtain⟨_,g_MOST_PLACES,r_MOST_PLACES⟩:=G.mplaces
 refine F.mk' (k:=2) zbm (fun vs H Q E h=>?_) (fun f cdv A outer s H vs Q E hr h=>?_)
 ·obtain⟨a,b,ks,ps,rfl,_⟩:=h
  rfl
 ·obtain⟨a,b,ks,ps,rfl,hA,hnm,hB,h2,hin,q⟩:=h
  refine'⟨_,?dv,?_⟩
  case dv=>(have:=bB 163 17 63 1 ["kind","kinds","places"]; have:=aj 8 163 56 62; walk_at "S2")
  refine⟨_,rfl,b,_,rfl,hB,fun H1 s1=>⟨true,rfl,dz ?_⟩⟩
  refine⟨_,rfl,b,_,rfl,(hB.same s1).sq,_,_,rfl,rfl,_,rfl,ifF (by rw [YC]; simp; omega) ?_⟩
  refine(hB.same s1).over rfl fun J O=>?_
  intro cl C ex s0 H0
  refine O.comp (fun i ys H2=>ys=(ps.take i).map V.str∧al H1 H2) ⟨rfl,al.refl _⟩ (by rw [YC]; exact YE h2 (by decide)) (fun i ys H2 _ ⟨_,z⟩ o e=>z b o e) ?_ ?_
  ·rintro i x ys H2 hi hy ⟨rfl,s2⟩
   rw [YZ] at hi
   obtain⟨k,hk,rfl⟩:=YS.mp hi
   have hkp:=hin k (YU hk)
   refine⟨_,rfl,_,rfl,a,ks,k,rfl,(hA.same s1).same s2,hnm k hkp,hkp,fun H3 s3=>⟨?_,s2.trans s3⟩⟩
   rw [Y7,hk,Y1]; rfl
  ·rintro ys H2 hy ⟨rfl,s2⟩ D hD
   rw [YC,Y8]
   refine⟨D,_,rfl,.inl ⟨SqL.of aa,fun t ht=>?_⟩⟩
   exact q t _ aa ((s1.trans s2).trans ((ac hD _).trans (ac ht _)))
abbrev b6:Stmt:=top 39
theorem zbn:ai lE8 lE8 (ag b6):=by walk_at "F"
inductive spSignName(vs:List V)(H:Hp)(Q:VK)(e3_:XK):Prop | mk (k:Str) (_:vs=[.str k]) (_:kW k) (_:∀ H',al H H'→Q (.str k) H')
theorem kR(F:ah K mg "checked_sign_name" b6 lE8)(Z:Bl mg)(G:Gs K mg)(D_is_name:Def P w K mg base "is_name" 1 lB0 spIsName):Def P w K mg base "checked_sign_name" 2 lE8 spSignName:=by
 have SC:=zbn
 obtain⟨wa,g_WORDS_OF_SAYINGS,hW⟩:=G.words
 have r_WORDS_OF_SAYINGS:ar (.ref wa) (.ref wa):=rfl
 refine F.mk' (k:=1) zbn (fun vs H Q E h=>?_) (fun f cdv A outer s H vs Q E hr h=>?_)
 ·obtain⟨k,rfl,_⟩:=h
  rfl
 ·obtain⟨k,rfl,hs,q⟩:=h
  refine'⟨_,?dv,?_⟩
  case dv=>(walk_at "S2")
  refine⟨_,rfl,k,rfl,hs.1,fun H1 s1=>⟨true,rfl,dz ?_⟩⟩
  refine⟨_,rfl,wa,_,rfl,.inr (hW _),rfl,dh sayWords,_,rfl,ifF ?_ ⟨_,rfl,q _ s1⟩⟩
  rw [cQ,decide_eq_false hs.2]
  decide
abbrev dM:Stmt:=top 37
theorem zbo:ai ["kinds","tie","name","places"] lE4 (ag dM):=by walk_at "F"
def zA(ks:List Str)(nm:Str)(ps:List Str):Prop:=kW nm∧ps.length≤2∧∀ k∈ps,k∈ks
inductive spTie(vs:List V)(H:Hp)(Q:VK)(e3_:XK):Prop | mk (a b c:Addr) (ks ps:List Str) (nm:Str) (_:vs=[.ref a,.ref b]) (_:LT H a (ks.map V.str)) (_:(∀ k∈ks,cV k)) (_:LT H b [.str nm,.ref c]) (_:LT H c (ps.map V.str)) (_:zA ks nm ps) (_:∀ t u H',H' t=some (.tup [.str nm,.ref u])→H' u=some (.tup (ps.map V.str))→al H H'→Q (.ref t) H')
theorem ya(F:ah K mg "checked_tie" dM lE4)(Z:Bl mg)(D_is_list:Def P w K mg base "is_list" 1 lB0 spIsList)(D_checked_sign_name:Def P w K mg base "checked_sign_name" 2 lE8 spSignName)(D_checked_places:Def P w K mg base "checked_places" 3 lD3 spPlaces):
  Def P w K mg base "checked_tie" 4 lE4 spTie:=by
 have SC:=zbo
 refine F.mk' (k:=3) zbo (fun vs H Q E h=>?_) (fun f cdv A outer s H vs Q E hr h=>?_)
 ·obtain⟨a,b,c,ks,ps,nm,rfl,_⟩:=h
  rfl
 ·obtain⟨a,b,c,ks,ps,nm,rfl,hA,hnm,hB,hC,⟨hs,h2,hin⟩,q⟩:=h
  refine'⟨_,?dv,?_⟩
  case dv=>(have:=aj 9 149 4 16; walk_at "S2")
  refine⟨_,rfl,b,_,rfl,hB,fun H1 s1=>⟨true,rfl,dz ?_⟩⟩
  refine⟨_,rfl,b,_,rfl,(hB.same s1).sq,rfl,_,rfl,ifF (by simp) ?_⟩
  refine⟨_,rfl,b,_,rfl,(hB.same s1).sq,rfl,_,_,rfl,_,_,rfl,rfl,?_⟩
  refine⟨_,rfl,nm,rfl,hs,fun H2 s2=>?_⟩
  have s02:=s1.trans s2
  refine⟨_,rfl,_,rfl,a,c,ks,ps,rfl,hA.same s02,hnm,hC.same s02,h2,hin,fun u H3 hu s3=>?_⟩
  refine⟨by show 2≤sizeLine; decide,fun t ht=>?_⟩
  exact q t u _ aa (ac ht _ _ _ hu) ((s02.trans s3).trans (ac ht _))
abbrev cf:Stmt:=top 38
theorem zbp:ai ["kinds","function","name","places","kind"] lD9 (ag cf):=by walk_at "F"
inductive spFunc(vs:List V)(H:Hp)(Q:VK)(e3_:XK):Prop | mk (a b c:Addr) (ks ps:List Str) (nm kd:Str) (_:vs=[.ref a,.ref b]) (_:LT H a (ks.map V.str)) (_:(∀ k∈ks,cV k)) (_:LT H b [.str nm,.ref c,.str kd]) (_:LT H c (ps.map V.str)) (_:zA ks nm ps) (_:kd∈ks) (_:∀ t u H',H' t=some (.tup [.str nm,.ref u,.str kd])→H' u=some (.tup (ps.map V.str))→al H H'→Q (.ref t) H')
theorem vR(F:ah K mg "checked_function" cf lD9)(Z:Bl mg)(D_is_list:Def P w K mg base "is_list" 1 lB0 spIsList)(D_checked_sign_name:Def P w K mg base "checked_sign_name" 2 lE8 spSignName)(D_checked_places:Def P w K mg base "checked_places" 3 lD3 spPlaces)
  (D_checked_kind:Def P w K mg base "checked_kind" 2 lD1 spKind):Def P w K mg base "checked_function" 4 lD9 spFunc:=by
 have SC:=zbp
 refine F.mk' (k:=3) zbp (fun vs H Q E h=>?_) (fun f cdv A outer s H vs Q E hr h=>?_)
 ·obtain⟨a,b,c,ks,ps,nm,kd,rfl,_⟩:=h
  rfl
 ·obtain⟨a,b,c,ks,ps,nm,kd,rfl,hA,hnm,hB,hC,⟨hs,h2,hin⟩,hkd,q⟩:=h
  refine'⟨_,?dv,?_⟩
  case dv=>(have:=aj 9 154 4 22; walk_at "S2")
  refine⟨_,rfl,b,_,rfl,hB,fun H1 s1=>⟨true,rfl,dz ?_⟩⟩
  refine⟨_,rfl,b,_,rfl,(hB.same s1).sq,rfl,_,rfl,ifF (by simp) ?_⟩
  refine⟨_,rfl,b,_,rfl,(hB.same s1).sq,rfl,_,_,rfl,_,_,rfl,_,_,rfl,rfl,?_⟩
  refine⟨_,rfl,nm,rfl,hs,fun H2 s2=>?_⟩
  have s02:=s1.trans s2
  refine⟨_,rfl,_,rfl,a,c,ks,ps,rfl,hA.same s02,hnm,hC.same s02,h2,hin,fun u H3 hu s3=>?_⟩
  have s03:=s02.trans s3
  refine⟨_,rfl,_,rfl,a,ks,kd,rfl,hA.same s03,hnm kd hkd,hkd,fun H4 s4=>?_⟩
  refine⟨by show 3≤sizeLine; decide,fun t ht=>?_⟩
  exact q t u _ aa (ac ht _ _ _ (s4 _ _ hu)) ((s03.trans s4).trans (ac ht _))
end
def aQ(C:Addr)(H:Hp)(x:Addr)(ks:List Str)(ts:List aq)(fs:List ao):Prop:=
 ∃ dx kt tt ft tv fv,H x=some (.ins C dx (flF kt tt ft))∧H kt=some (.tup (ks.map V.str))∧H tt=some (.tup tv)∧RdA Any H tv (ts.map fG)∧H ft=some (.tup fv)∧RdA Any H fv (fs.map ge)
theorem iS:∀ ws:List Str,bF (gq ws)=true
 | []=>rfl
 | x::r=>by
  show (cZ (PyData.str x)&&bF (gq r))=true
  rw [iS r]; rfl
theorem rH(t:aq):cZ (fG t)=true:=by
 show (true&&(bF (gq t.ps)&&true))=true
 rw [iS]; rfl
theorem uz(t:ao):cZ (ge t)=true:=by
 show (true&&(bF (gq t.ps)&&(true&&true)))=true
 rw [iS]; rfl
theorem gp:∀ ts:List aq,bF (ts.map fG)=true
 | []=>rfl
 | x::r=>by
  show (cZ (fG x)&&bF (r.map fG))=true
  rw [gp r,rH]; rfl
theorem jj:∀ ts:List ao,bF (ts.map ge)=true
 | []=>rfl
 | x::r=>by
  show (cZ (ge x)&&bF (r.map ge))=true
  rw [jj r,uz]; rfl
theorem aQ.keep{C:Addr}{H H':Hp}{x:Addr}{ks:List Str}{ts:List aq}{fs:List ao}(h:aQ C H x ks ts fs)(hx:∀ o,H x=some o→H' x=some o)(ht:gN H H'):aQ C H' x ks ts fs:=by
 obtain⟨dx,kt,tt,ft,tv,fv,h1,h2,h3,h4,h5,h6⟩:=h
 exact⟨dx,kt,tt,ft,tv,fv,hx _ h1,ht _ _ h2,ht _ _ h3,h4.monoT (fun _ z=>z) ht (gp ts),ht _ _ h5,h6.monoT (fun _ z=>z) ht (jj fs)⟩
def nmD:PyData→Str
 | .tuple (.str n::_)=>n
 | _=>Str.empty
theorem we(ts:List aq):(ts.map fG).map nmD=ts.map (·.nm):=by rw [List.map_map]; rfl
theorem wf(ts:List ao):(ts.map ge).map nmD=ts.map (·.nm):=by rw [List.map_map]; rfl
theorem vi{ts:List aq}{fs:List ao}{d:PyData}(h:d∈ts.map fG++fs.map ge):∃ r,d=.tuple (.str (nmD d)::r):=by
 rcases Y3.mp h with h | h
 ·obtain⟨t,_,rfl⟩:=XR.mp h
  exact⟨_,rfl⟩
 ·obtain⟨t,_,rfl⟩:=XR.mp h
  exact⟨_,rfl⟩
section
abbrev kE:Stmt:=em (top 35) 1
theorem zbq:ai lC3 lC3 (ag kE):=by walk_at "F"
inductive spTellK(C:Addr)(vs:List V)(H:Hp)(Q:VK)(e3_:XK):Prop | mk (x:Addr) (ks:List Str) (ts:List aq) (fs:List ao) (_:vs=[.ref x]) (_:aQ C H x ks ts fs) (_:∀ l,H l=none→Q (.ref l) (upd H l (.lst (ks.map V.str))))
theorem tf{f C:Addr}{fd:FuncData}(F:Fun K "kinds" "Signs.kinds" kE f fd)(Z:Bl mg)(T:ClS K C):cC P w K mg base CX0 1 f fd lC3 (spTellK C):=by
 have SC:=zbq
 refine F.ok zbq (fun vs H Q E h=>?_) (fun cdv A outer s H vs Q E hr h=>?_)
 ·obtain⟨x,ks,ts,fs,rfl,_⟩:=h
  rfl
 ·obtain⟨x,ks,ts,fs,rfl,⟨dx,kt,tt,ft,tv,fv,h1,h2,h3,h4,h5,h6⟩,q⟩:=h
  refine'⟨_,?dv,?_⟩
  case dv=>(walk_at "S1")
  exact⟨_,rfl,x,C,dx,_,_,rfl,h1,T.cl,T.nK,qN _ _ _,kt,_,rfl,.inr (SqT.of h2),q⟩
abbrev nJ:Stmt:=em (top 35) 2
theorem zbr:ai lC3 lC3 (ag nJ):=by walk_at "F"
inductive spTellT(C:Addr)(vs:List V)(H:Hp)(Q:VK)(e3_:XK):Prop | mk (x:Addr) (ks:List Str) (ts:List aq) (fs:List ao) (_:vs=[.ref x]) (_:aQ C H x ks ts fs) (_:∀ l tv,H l=none→RdA Any H tv (ts.map fG)→Q (.ref l) (upd H l (.lst tv)))
theorem sZ{f C:Addr}{fd:FuncData}(F:Fun K "ties" "Signs.ties" nJ f fd)(Z:Bl mg)(T:ClS K C):cC P w K mg base CX0 1 f fd lC3 (spTellT C):=by
 have SC:=zbr
 refine F.ok zbr (fun vs H Q E h=>?_) (fun cdv A outer s H vs Q E hr h=>?_)
 ·obtain⟨x,ks,ts,fs,rfl,_⟩:=h
  rfl
 ·obtain⟨x,ks,ts,fs,rfl,⟨dx,kt,tt,ft,tv,fv,h1,h2,h3,h4,h5,h6⟩,q⟩:=h
  refine'⟨_,?dv,?_⟩
  case dv=>(walk_at "S1")
  exact⟨_,rfl,x,C,dx,_,_,rfl,h1,T.cl,T.nT,mG _ _ _,tt,_,rfl,.inr (SqT.of h3),fun l hl=>q l tv hl h4⟩
abbrev eW:Stmt:=em (top 35) 3
theorem zbs:ai lC3 lC3 (ag eW):=by walk_at "F"
inductive spTellF(C:Addr)(vs:List V)(H:Hp)(Q:VK)(e3_:XK):Prop | mk (x:Addr) (ks:List Str) (ts:List aq) (fs:List ao) (_:vs=[.ref x]) (_:aQ C H x ks ts fs) (_:∀ l fv,H l=none→RdA Any H fv (fs.map ge)→Q (.ref l) (upd H l (.lst fv)))
theorem tj{f C:Addr}{fd:FuncData}(F:Fun K "functions" "Signs.functions" eW f fd)(Z:Bl mg)(T:ClS K C):cC P w K mg base CX0 1 f fd lC3 (spTellF C):=by
 have SC:=zbs
 refine F.ok zbs (fun vs H Q E h=>?_) (fun cdv A outer s H vs Q E hr h=>?_)
 ·obtain⟨x,ks,ts,fs,rfl,_⟩:=h
  rfl
 ·obtain⟨x,ks,ts,fs,rfl,⟨dx,kt,tt,ft,tv,fv,h1,h2,h3,h4,h5,h6⟩,q⟩:=h
  refine'⟨_,?dv,?_⟩
  case dv=>(walk_at "S1")
  exact⟨_,rfl,x,C,dx,_,_,rfl,h1,T.cl,T.nF,mH _ _ _,ft,_,rfl,.inr (SqT.of h5),fun l hl=>q l fv hl h6⟩
abbrev g9:Stmt:=em (top 35) 0
theorem zbt:ai lB8 lB8 (ag g9):=by walk_at "F"
inductive spInit(C:Addr)(vs:List V)(H:Hp)(Q:VK)(e3_:XK):Prop | mk (x dx a b c:Addr) (ab cd:List (Addr×Addr)) (ks:List Str) (ts:List aq) (fs:List ao) (_:vs=[.ref x,.ref a,.ref b,.ref c]) (_:H x=some (.ins C dx [])) (_:LT H a (ks.map V.str)) (_:LT H b (ab.map fun q=>V.ref q.1)) (_:Sgs H ab (ts.map rJ)) (_:LT H c (cd.map fun q=>V.ref q.1)) (_:Sgs H cd (fs.map uA)) (_:aU ks ts fs) (_:∀ H',aQ C H' x ks ts fs→av x H H'→Q .non H')
theorem LT.neIns{H:Hp}{a x C dx:Addr}{xs:List V}{fl:List (Str×V)}(h:LT H a xs)(hx:H x=Option.some (.ins C dx fl)):a≠x:=by
 rintro rfl
 rcases h with h | h <;> (rw [h] at hx; cases hx)
theorem vQ{f C:Addr}{fd:FuncData}(F:Fun K "__init__" "Signs.__init__" g9 f fd)(Z:Bl mg)(G:Gs K mg)(T:ClS K C)(D_is_list:Def P w K mg base "is_list" 1 lB0 spIsList)(D_checked_kinds:Def P w K mg base "checked_kinds" 2 lE9 spKinds)
  (D_checked_tie:Def P w K mg base "checked_tie" 4 lE4 spTie) (D_checked_function:Def P w K mg base "checked_function" 4 lD9 spFunc) (D_check_apart:Def P w K mg base "check_apart" 1 lE6 spApart) :
  cC P w K mg base CX0 5 f fd lB8 (spInit C):=by
 have SC:=zbt
 obtain⟨_,g_MOST_SIGNS,r_MOST_SIGNS⟩:=G.msigns
 refine F.ok zbt (fun vs H Q E h=>?_) (fun cdv A outer s H vs Q E hr h=>?_)
 ·obtain⟨x,dx,a,b,c,ab,cd,ks,ts,fs,rfl,_⟩:=h
  rfl
 ·obtain⟨x,dx,a,b,c,ab,cd,ks,ts,fs,rfl,hx,hA,hB,sB,hC,sC,ok,q⟩:=h
  have nbx:b≠x:=hB.neIns hx
  have ncx:c≠x:=hC.neIns hx
  have abl:ab.length=ts.length:=by rw [sB.length,YC]
  have cdl:cd.length=fs.length:=by rw [sC.length,YC]
  have sl:=ok.sl
  have sgx:∀ {H':Hp} {q:Addr×Addr} {r:ls},av x H H'→wQ H q r→wQ H' q r:=fun s g=>⟨g.row.mono fun o e=>s _ _ (g.row.neIns hx) e,g.plc.mono fun o e=>s _ _ (g.plc.neIns hx) e⟩
  refine'⟨_,?dv,?_⟩
  case dv=>(have:=aj 10 128 21 28; have:=aj 11 128 41 77; have:=bB 126 31 82 1 ["tie","self","kinds","ties","functions"]; have:=bB 127 36 107 1 ["function","self","kinds","ties","functions"]; have:=bB 128 20 78 1 ["sign","self","kinds","ties","functions"]; have:=aj 8 126 77 81; have:=aj 8 127 97 106; have:=aj 12 128 41 77; walk_at "S2")
  refine⟨_,rfl,a,ks,rfl,hA,⟨ok.kn,ok.k1,ok.k4,ok.kn2⟩,fun kt H1 hkt s1=>?_⟩
  refine⟨_,rfl,x,C,dx,_,rfl,s1 _ _ hx,T.cl,T.nK,by decide,?_⟩
  have nkx:kt≠x:=by rintro rfl; rw [s1 _ _ hx] at hkt; cases hkt
  generalize hG2:upd H1 x (.ins C dx (aW "kept_kinds" (.ref kt) []))=H2
  have x2:H2 x=some (.ins C dx (flK kt)):=by rw [← hG2]; exact aa
  have k2:H2 kt=some (.tup (ks.map V.str)):=by rw [← hG2,ae nkx]; exact hkt
  have S2:av x H H2:=by rw [← hG2]; exact s1.x.trans (av.upd x H1 _)
  refine⟨_,rfl,b,_,rfl,hB.mono fun o e=>S2 _ _ nbx e,fun H3 s3=>⟨true,rfl,dz ?_⟩⟩
  have S3:=S2.same s3
  refine⟨_,rfl,c,_,rfl,hC.mono fun o e=>S3 _ _ ncx e,fun H4 s4=>⟨true,rfl,dz ?_⟩⟩
  have S4:=S3.same s4
  refine⟨_,rfl,b,_,rfl,(hB.mono fun o e=>S4 _ _ nbx e).sq,_,rfl,c,_,rfl,(hC.mono fun o e=>S4 _ _ ncx e).sq,_,_,rfl,rfl,_,_,rfl,rfl,_,rfl,ifF (by rw [YC,YC]; simp; omega) ?_⟩
  have s24:al H2 H4:=s3.trans s4
  refine(hB.mono fun o e=>S4 _ _ nbx e).over rfl fun J O=>?_
  intro cl C1 ex s0 H0
  refine O.comp (fun i ys H5=>RdA Any H5 ys ((ts.take i).map fG)∧al H4 H5) ⟨.nil,al.refl _⟩ (by rw [YC]; exact YE (show ab.length≤8 by omega) (by decide)) (fun i ys H5 _ ⟨_,z⟩ o e=>z b o e) ?_ ?_
  ·rintro i y ys H5 hi hy ⟨r5,s5⟩
   rw [YZ] at hi
   obtain⟨qq,hq,rfl⟩:=YS.mp hi
   obtain⟨r,hr',sg⟩:=sB.get hq
   rw [YZ] at hr'
   obtain⟨t,ht,rfl⟩:=YS.mp hr'
   have s25:=s24.trans s5
   have sg5:=sgx (S4.same s5) sg
   refine⟨_,rfl,x,C,dx,_,_,rfl,s25 _ _ x2,T.cl,T.nK,jX _,_,rfl,kt,qq.1,qq.2,ks,t.ps,t.nm,rfl,.inr (s25 _ _ k2),ok.kn2,sg5.row,sg5.plc,ok.tn t (YU ht),fun tt u H6 h6 h7 s6=>⟨?_,s5.trans s6⟩⟩
   rw [Y7,ht]
   show RdA Any H6 (ys++[.ref tt]) (List.map fG (ts.take i++[t]))
   rw [Y1]
   exact(r5.same s6).snoc (.tup trivial h6 (.cons (.str _) (.cons (.tup trivial h7 (RdA.strs _)) .nil)))
  rintro tv H5 hy ⟨r5,s5⟩ D1 hD1
  rw [YC,abl,Y8] at r5
  refine⟨D1,tv,rfl,.inl ⟨SqL.of aa,fun tt htt=>?_⟩⟩
  have s6:=(ac hD1 (.lst tv)).trans (ac htt (.tup tv))
  have s26:=(s24.trans s5).trans s6
  refine⟨_,rfl,x,C,dx,_,rfl,s26 _ _ x2,T.cl,T.nT,wy _,?_⟩
  have tt6:(upd (upd H5 D1 (.lst tv)) tt (.tup tv)) tt=some (.tup tv):=aa
  generalize (upd (upd H5 D1 (.lst tv)) tt (.tup tv))=G6 at s6 s26 tt6
  have ntx:tt≠x:=by rintro rfl; rw [s26 _ _ x2] at tt6; cases tt6
  generalize hG7:upd G6 x (.ins C dx (aW "kept_ties" (.ref tt) (flK kt)))=H7
  have x7:H7 x=some (.ins C dx (flT kt tt)):=by rw [← hG7]; exact aa
  have S67:av x G6 H7:=by rw [← hG7]; exact av.upd x G6 _
  have t7:H7 tt=some (.tup tv):=S67 _ _ ntx tt6
  have k7:H7 kt=some (.tup (ks.map V.str)):=S67 _ _ nkx (s26 _ _ k2)
  have S7:av x H H7:=(S2.same s26).trans S67
  have T67:gN G6 H7:=fun p xs e=>S67 p _ (fun z=>by rw [z,s26 _ _ x2] at e; cases e) e
  have r7:RdA Any H7 tv (ts.map fG):=(r5.same s6).monoT (fun _ z=>z) T67 (gp ts)
  refine(hC.mono fun o e=>S7 _ _ ncx e).over rfl fun J O=>?_
  intro cl C1 ex s0 H0
  refine O.comp (fun i ys H8=>RdA Any H8 ys ((fs.take i).map ge)∧al H7 H8) ⟨.nil,al.refl _⟩ (by rw [YC]; exact YE (show cd.length≤8 by omega) (by decide)) (fun i ys H8 _ ⟨_,z⟩ o e=>z c o e) ?_ ?_
  ·rintro i y ys H8 hi hy ⟨r8,s8⟩
   rw [YZ] at hi
   obtain⟨qq,hq,rfl⟩:=YS.mp hi
   obtain⟨r,hr',sg⟩:=sC.get hq
   rw [YZ] at hr'
   obtain⟨t,ht,rfl⟩:=YS.mp hr'
   have sg8:=sgx (S7.same s8) sg
   obtain⟨o1,o2,o3,o4⟩:=ok.fn t (YU ht)
   refine⟨_,rfl,x,C,dx,_,_,rfl,s8 _ _ x7,T.cl,T.nK,jW _ _,_,rfl,kt,qq.1,qq.2,ks,t.ps,t.nm,t.kd,rfl,.inr (s8 _ _ k7),ok.kn2,sg8.row,sg8.plc,⟨o1,o2,o3⟩,o4,fun tt u H9 h6 h7 s9=>⟨?_,s8.trans s9⟩⟩
   rw [Y7,ht]
   show RdA Any H9 (ys++[.ref tt]) (List.map ge (fs.take i++[t]))
   rw [Y1]
   exact(r8.same s9).snoc (.tup trivial h6 (.cons (.str _) (.cons (.tup trivial h7 (RdA.strs _)) (.cons (.str _) .nil))))
  rintro fv H8 hy2 ⟨r8,s8⟩ D2 hD2
  rw [YC,cdl,Y8] at r8
  refine⟨D2,fv,rfl,.inl ⟨SqL.of aa,fun ft hft=>?_⟩⟩
  have s9:=s8.trans ((ac hD2 (.lst fv)).trans (ac hft (.tup fv)))
  have r9:=r8.same ((ac hD2 (.lst fv)).trans (ac hft (.tup fv)))
  refine⟨_,rfl,x,C,dx,_,rfl,s9 _ _ x7,T.cl,T.nF,wx _ _,?_⟩
  have ft9:(upd (upd H8 D2 (.lst fv)) ft (.tup fv)) ft=some (.tup fv):=aa
  generalize (upd (upd H8 D2 (.lst fv)) ft (.tup fv))=G9 at s9 r9 ft9
  have nfx:ft≠x:=by rintro rfl; rw [s9 _ _ x7] at ft9; cases ft9
  generalize hG10:upd G9 x (.ins C dx (aW "kept_functions" (.ref ft) (flT kt tt)))=HA
  have xA:HA x=some (.ins C dx (flF kt tt ft)):=by rw [← hG10]; exact aa
  have S9A:av x G9 HA:=by rw [← hG10]; exact av.upd x G9 _
  have T9A:gN G9 HA:=fun p xs e=>S9A p _ (fun z=>by rw [z,s9 _ _ x7] at e; cases e) e
  have tA:HA tt=some (.tup tv):=S9A _ _ ntx (s9 _ _ t7)
  have fA:HA ft=some (.tup fv):=S9A _ _ nfx ft9
  have kA:HA kt=some (.tup (ks.map V.str)):=S9A _ _ nkx (s9 _ _ k7)
  have rtA:RdA Any HA tv (ts.map fG):=(r7.same s9).monoT (fun _ z=>z) T9A (gp ts)
  have rfA:RdA Any HA fv (fs.map ge):=r9.monoT (fun _ z=>z) T9A (jj fs)
  have SA:av x H HA:=(S7.same s9).trans S9A
  have tvl:tv.length=ts.length:=by rw [rtA.length,YC]
  have fvl:fv.length=fs.length:=by rw [rfA.length,YC]
  have small:tv.length+fv.length≤sizeLine:=YE (show tv.length+fv.length≤8 by omega) (by decide)
  refine⟨_,rfl,x,C,dx,_,_,rfl,xA,T.cl,T.nT,mG _ _ _,_,rfl,x,C,dx,_,_,rfl,xA,T.cl,T.nF,mH _ _ _,?_⟩
  refine lh tA fA small fun p HB hp sB'=>?_
  refine⟨p,rfl,⟨_,SqT.of hp⟩,?_⟩
  have rB:RdA Any HB (tv++fv) (ts.map fG++fs.map ge):=(rtA.append rfA).same sB'
  intro cl C1 ex s0 H0
  refine bi (tv++fv).length (fun i ys HC=>ys=(((ts.map fG++fs.map ge).map nmD).take i).map V.str∧al HB HC) (fun i y=>(tv++fv)[i]? = some y) ⟨rfl,al.refl _⟩ (by rw [YY]; exact small) (fun i ys HC hi _ ⟨_,z⟩=>kZ (SqT.of (z _ _ hp)) hi) (fun ys HC _ ⟨_,z⟩=>gr (SqT.of (z _ _ hp))) ?_ ?_
  ·rintro i y ys HC hi hy _ ⟨rfl,sC'⟩
   obtain⟨d,hd,rd⟩:=rB.getV hy
   obtain⟨rr,e⟩:=vi (YU hd)
   rw [e] at rd
   obtain⟨py,px,rfl,_,hpy,hpx⟩:=rd.tuple_inv
   cases hpx with | cons a1 t1=>
   obtain rfl:=a1.str_inv
   refine⟨_,rfl,py,_,_,_,rfl,rfl,SqT.of (sC' _ _ hpy),aH (x:=V.str (nmD d)) (by decide) rfl,?_,sC'⟩
   rw [Y7,YZ,hd]
   exact(Y1 (l₂:=[nmD d])).symm
  rintro ys HC hyl ⟨rfl,sC'⟩ D3 hD3
  have el:(((ts.map fG++fs.map ge).map nmD).take (tv++fv).length)=ts.map (·.nm)++fs.map (·.nm):=by
   rw [Y1,we,wf,XS]
   simp [tvl,fvl]
  rw [el]
  refine⟨D3,_,rfl,.inl aa,ok.sn,by simp; omega,fun HD sD=>?_⟩
  have sAD:al HA HD:=(sB'.trans sC').trans ((ac hD3 _).trans sD)
  refine q HD ⟨dx,kt,tt,ft,tv,fv,sAD _ _ xA,sAD _ _ kA,sAD _ _ tA,rtA.same sAD,sAD _ _ fA,rfA.same sAD⟩ (SA.same sAD)
end
inductive Tr where
 | leaf (x:Str)
 | node (ts:List Tr)
mutual
inductive Mix(H:Hp):V→Tr→Prop where
 | leaf (x:Str):Mix H (.str x) (.leaf x)
 | node {a:Addr} {xs:List V} {ts:List Tr}:LT H a xs→fh H xs ts→Mix H (.ref a) (.node ts)
inductive fh(H:Hp):List V→List Tr→Prop where
 | nil:fh H [] []
 | cons {x:V} {xs:List V} {t:Tr} {ts:List Tr}:Mix H x t→fh H xs ts→fh H (x::xs) (t::ts)
end
mutual
inductive Tup(H:Hp):V→Tr→Prop where
 | leaf (x:Str):Tup H (.str x) (.leaf x)
 | node {a:Addr} {xs:List V} {ts:List Tr}:H a=some (.tup xs)→de H xs ts→Tup H (.ref a) (.node ts)
inductive de(H:Hp):List V→List Tr→Prop where
 | nil:de H [] []
 | cons {x:V} {xs:List V} {t:Tr} {ts:List Tr}:Tup H x t→de H xs ts→de H (x::xs) (t::ts)
end
mutual
theorem uc{H H':Hp}(s:al H H'):∀ {v:V} {t:Tr},Mix H v t→Mix H' v t
 | _,_,.leaf x=>.leaf x
 | _,_,.node h r=>.node (h.same s) (dZ s r)
theorem dZ{H H':Hp}(s:al H H'):∀ {v:List V} {t:List Tr},fh H v t→fh H' v t
 | _,_,.nil=>.nil
 | _,_,.cons a r=>.cons (uc s a) (dZ s r)
end
mutual
theorem dk{H H':Hp}(s:gN H H'):∀ {v:V} {t:Tr},Tup H v t→Tup H' v t
 | _,_,.leaf x=>.leaf x
 | _,_,.node h r=>.node (s _ _ h) (cE s r)
theorem cE{H H':Hp}(s:gN H H'):∀ {v:List V} {t:List Tr},de H v t→de H' v t
 | _,_,.nil=>.nil
 | _,_,.cons a r=>.cons (dk s a) (cE s r)
end
theorem de.length{H:Hp}:∀ {v:List V} {t:List Tr},de H v t→v.length=t.length
 | _,_,.nil=>rfl
 | _,_,.cons _ r=>by rw [YR,YR,de.length r]
theorem de.snoc{H:Hp}{x:V}{y:Tr}:∀ {v:List V} {t:List Tr},de H v t→Tup H x y→de H (v++[x]) (t++[y])
 | _,_,.nil,h=>.cons h .nil
 | _,_,.cons a r,h=>.cons a (de.snoc r h)
mutual
inductive mW(fs:List ao)(sc:Str→Option Str):Tr→Str→Prop where
 | var {x k:Str}:sc x=some k→mW fs sc (.leaf x) k
 | app {f:ao} {ts:List Tr}:f∈fs→dG fs sc ts f.ps→mW fs sc (.node (.leaf f.nm::ts)) f.kd
inductive dG(fs:List ao)(sc:Str→Option Str):List Tr→List Str→Prop where
 | nil:dG fs sc [] []
 | cons {t:Tr} {k:Str} {ts:List Tr} {ks:List Str}:mW fs sc t k→dG fs sc ts ks→dG fs sc (t::ts) (k::ks)
end
def eR(sc:Str→Option Str)(x k:Str):Str→Option Str:=fun y=>if y=x then some k else sc y
mutual
inductive fN(ks:List Str)(ts:List aq)(fs:List ao):(Str→Option Str)→Tr→Prop where
 | eq {sc:Str→Option Str} {a b:Tr} {k:Str}:mW fs sc a k→mW fs sc b k→fN ks ts fs sc (.node [.leaf "=",a,b])
 | not {sc:Str→Option Str} {a:Tr}:fN ks ts fs sc a→fN ks ts fs sc (.node [.leaf "not",a])
 | conn {sc:Str→Option Str} {w:Str} {l:List Tr}:w="and"∨w="or"→l.length≤50→fm ks ts fs sc l→fN ks ts fs sc (.node (.leaf w::l))
 | bind {sc:Str→Option Str} {w x k:Str} {a:Tr}:w="all"∨w="some"→cV x→k∈ks→fN ks ts fs (eR sc x k) a→fN ks ts fs sc (.node [.leaf w,.leaf x,.leaf k,a])
 | tie {sc:Str→Option Str} {t:aq} {l:List Tr}:t∈ts→dG fs sc l t.ps→fN ks ts fs sc (.node (.leaf t.nm::l))
inductive fm(ks:List Str)(ts:List aq)(fs:List ao):(Str→Option Str)→List Tr→Prop where
 | nil {sc:Str→Option Str}:fm ks ts fs sc []
 | cons {sc:Str→Option Str} {a:Tr} {l:List Tr}:fN ks ts fs sc a→fm ks ts fs sc l→fm ks ts fs sc (a::l)
end
mutual
def dep:Tr→Nat
 | .leaf _=>0
 | .node ts=>1+iB ts
def iB:List Tr→Nat
 | []=>0
 | t::ts=>max (dep t) (iB ts)
end
theorem jn{t:Tr}:∀ {ts:List Tr},t∈ts→dep t≤iB ts
 | x::r,h=>by
  show dep t≤max (dep x) (iB r)
  rcases YM.mp h with rfl | h
  ·exact Nat.le_max_left _ _
  ·exact YE (jn h) (Nat.le_max_right _ _)
theorem dG.length{fs:List ao}{sc:Str→Option Str}:∀ {ts:List Tr} {ks:List Str},dG fs sc ts ks→ts.length=ks.length
 | _,_,.nil=>rfl
 | _,_,.cons _ r=>by rw [YR,YR,dG.length r]
def lq(H:Hp)(a:Addr)(sc:Str→Option Str):Prop:=∃ kvs:List (Key×V),H a=some (.dK kvs)∧kvs.length≤100∧∀ x:Str,bj kvs (.inr x)=(sc x).map V.str
theorem lq.same{H H':Hp}{a:Addr}{sc:Str→Option Str}(h:lq H a sc)(s:al H H'):lq H' a sc:=let ⟨kvs,e,r⟩:=h; ⟨kvs,s _ _ e,r⟩
mutual
def wr:Tr→Str
 | .leaf x=>x
 | .node ts=>(("(":Str)++Str.join " " (wrA ts))++")"
def wrA:List Tr→List Str
 | []=>[]
 | t::ts=>wr t::wrA ts
end
theorem rn:∀ ts:List Tr,wrA ts=ts.map wr
 | []=>by rw [wrA]; rfl
 | t::ts=>by rw [wrA,rn ts]; rfl
theorem ej(a b:Str):(a++b).length=a.length+b.length:=by
 show (a.cps++b.cps).size=a.cps.size+b.cps.size
 simp
theorem mD:∀ ts:List Str,(ts.map (·.length)).sum+ts.length≤(Str.join " " ts).length+1
 | []=>by simp
 | [x]=>by
  show x.length+0+1≤x.length+1
  omega
 | x::y::r=>by
  have ih:=mD (y::r)
  have e:(Str.join " " (x::y::r)).length=x.length+1+(Str.join " " (y::r)).length:=by
   show (x++(" ":Str)++Str.join " " (y::r)).length=_
   rw [ej,ej]; rfl
  rw [e,Y9,List.sum_cons,YR]
  omega
theorem oR(ts:List Tr):wr (.node ts)=(("(":Str)++Str.join " " (ts.map wr))++")":=by rw [wr,rn]
theorem mZ(ts:List Tr):(wr (.node ts)).length=(Str.join " " (ts.map wr)).length+2:=by
 rw [oR,ej,ej]
 show 1+_+1=_
 omega
theorem de.get{H:Hp}:∀ {v:List V} {t:List Tr} {i:Nat} {x:V},de H v t→v[i]? = some x→∃ y,t[i]? = some y∧Tup H x y
 | _,_,_,_,.nil,h=>by simp at h
 | _,_,0,_,.cons a _,h=>by simp at h; subst h; exact⟨_,rfl,a⟩
 | _,_,i+1,_,.cons _ r,h=>by simpa using de.get (i:=i) r (by simpa using h)
section
abbrev dW:Stmt:=top 29
theorem zbu:ai lB0 lB0 (ag dW):=by walk_at "F"
inductive spWr(n:Nat)(vs:List V)(H:Hp)(Q:VK)(e3_:XK):Prop | mk (v:V) (t:Tr) (_:vs=[v]) (_:Tup H v t) (_:dep t≤n) (_:(wr t).length≤1000000) (_:∀ H',al H H'→Q (.str (wr t)) H')
def rX:Nat→Sp
 | 0=>fun _ _ _ _=>False
 | n+1=>spWr n
theorem rV{m:Nat}{vs:List V}{H:Hp}{Q:VK}{E:XK}(h:spWr m vs H Q E):rX (m+1) vs H Q E:=h
theorem lX(F:ah K mg "written" dW lB0)(Z:Bl mg)(n:Nat)(D_written:Def P w K mg base "written" (n+1) lB0 (rX n)):Def P w K mg base "written" (n+2) lB0 (spWr n):=by
 have SC:=zbu
 refine F.mk' (k:=n+1) zbu (fun vs H Q E h=>?_) (fun f cdv A outer s H vs Q E hr h=>?_)
 ·obtain⟨v,t,rfl,_⟩:=h
  rfl
 ·obtain⟨v,t,rfl,ht,hn,hw,q⟩:=h
  refine'⟨_,?dv,?_⟩
  case dv=>(have:=aj 2 110 7 29; have:=aj 13 112 11 66; have:=aj 13 112 11 60; have:=aj 14 112 17 60; have:=bB 112 26 59 1 ["part","thing"]; have:=aj 8 112 53 58; walk_at "S2")
  cases ht with
  | leaf x=>exact⟨_,rfl,_,_,_,rfl,.str _,gw K,true,rfl,ifT rfl ⟨_,rfl,by have:=q H (al.refl _); rwa [wr] at this⟩⟩
  | node h r=>
   rename_i a xs ts
   have hd:dep (.node ts)=1+iB ts:=rfl
   rw [hd] at hn
   obtain⟨m,rfl⟩:∃ m,n=m+1:=⟨n-1,by omega⟩
   rw [mZ] at hw
   have js:=mD (ts.map wr)
   rw [YC] at js
   have rl:=r.length
   refine⟨_,rfl,_,_,false,rfl,.tup h,rfl,false,rfl,dz ?_⟩
   refine⟨rfl,?_⟩
   refine(show LT H a xs from .inr h).over rfl fun J O=>?_
   intro cl C1 ex s0 H0
   refine O.comp (fun i ys H4=>ys=((ts.map wr).take i).map V.str∧al H H4) ⟨rfl,al.refl _⟩ (YE (show xs.length≤1000001 by omega) (by decide)) (fun i ys H4 _ ⟨_,z⟩ o e=>z _ _ e) ?_ ?_
   ·rintro i y ys H4 hi hy ⟨rfl,s4⟩
    obtain⟨t,ht,tt⟩:=r.get hi
    have dt:=jn (YU ht)
    have lt:=join_mem_le " " (ts.map wr) (wr t) (XR.mpr ⟨t,YU ht,rfl⟩)
    refine⟨_,rfl,?_⟩
    unfold fS
    refine rV ⟨y,t,rfl,dk (al.tups s4) tt,by omega,by omega,fun H5 s5=>⟨?_,s4.trans s5⟩⟩
    rw [Y7,YZ,ht]
    exact(Y1 (l₂:=[wr t])).symm
   ·rintro ys H4 hy ⟨rfl,s4⟩ D hD
    have el:(ts.map wr).take xs.length=ts.map wr:=XS (by rw [YC]; omega)
    rw [el]
    refine⟨_,D,ts.map wr,rfl,rfl,SqL.of aa,PyProof.Rows.joinOk_of_weight (by rw [YC]; omega) (by decide),?_⟩
    have l1:("(":Str).length=1:=rfl
    have l2:(")":Str).length=1:=rfl
    refine⟨_,_,rfl,rfl,YE (show ("(":Str).length+_≤1000002 by omega) (by decide),?_⟩
    refine⟨_,_,rfl,rfl,YE (show _+(")":Str).length≤1000004 by rw [ej]; omega) (by decide),?_⟩
    rw [← oR]
    exact q _ (s4.trans (ac hD _))
theorem xZ(F:ah K mg "written" dW lB0):Def P w K mg base "written" 1 lB0 (rX 0):=
 F.mk' (k:=0) zbu (fun vs H Q E h=>False.elim h) fun f cdv A outer s H vs Q E hr h=>False.elim h
theorem wY(F:ah K mg "written" dW lB0)(Z:Bl mg):∀ n,Def P w K mg base "written" (n+2) lB0 (spWr n)
 | 0=>lX F Z 0 (xZ F)
 | n+1=>lX F Z (n+1) (wY F Z n)
end
structure ScL(H:Hp)(a:Addr)(ps:List (Str×Str)):Prop where
 ex:∃ bs:List Addr,H a=some (.lst (bs.map V.ref))∧Paired (fun b q=>H b=some (.tup [.str q.1,.str q.2])) bs ps
def cb(ps:List (Str×Str)):Str→Option Str:=ps.foldl (fun S q=>eR S q.1 q.2) fun _=>none
theorem i6{α β:Type}{F:α→β→Prop}:∀ {a:List α} {b:List β} {i:Nat} {x:α},Paired F a b→a[i]? = some x→∃ y,b[i]? = some y∧F x y
 | _,_,_,_,.nil,h=>by simp at h
 | _,_,0,_,.cons f _,h=>by simp at h; subst h; exact⟨_,rfl,f⟩
 | _,_,i+1,_,.cons _ r,h=>by simpa using i6 (i:=i) r (by simpa using h)
theorem n9{ps:List (Str×Str)}{i:Nat}{q:Str×Str}(h:ps[i]? = some q):cb (ps.take (i+1))=eR (cb (ps.take i)) q.1 q.2:=by
 unfold cb
 rw [Y7,h,Option.toList_some,List.foldl_append]
 rfl
theorem uk{kvs:List (Key×V)}{k:Key}{v:V}{q:Key×V}(h:q∈cg kvs k v):q.1=k∨∃ r∈kvs,r.1=q.1:=by
 unfold cg at h
 split at h
 ·obtain⟨r,hr,e⟩:=XR.mp h
  refine .inr ⟨r,hr,?_⟩
  rw [← e]
  split <;> rfl
 ·rcases Y3.mp h with h | h
  ·exact .inr ⟨q,h,rfl⟩
  ·rw [YK.mp h]; exact .inl rfl
def ScM(H:Hp)(d:Addr)(S:Str→Option Str)(n:Nat):Prop:=∃ kvs:List (Key×V),H d=some (.dK kvs)∧kvs.length≤n∧(∀ x:Str,bj kvs (.inr x)=(S x).map V.str)∧∀ q∈kvs,∃ x k,q.1=.inr x∧S x=some k
theorem ScM.put{H:Hp}{d:Addr}{S:Str→Option Str}{n:Nat}{kvs:List (Key×V)}(e2:∀ x:Str,bj kvs (.inr x)=(S x).map V.str)(e3:∀ q∈kvs,∃ x k,q.1=.inr x∧S x=some k)(el:kvs.length≤n)(xn kd:Str):ScM (upd H d (.dK (cg kvs (.inr xn) (.str kd)))) d (eR S xn kd) (n+1):=by
 refine⟨_,aa,YE (bz _ _ _) (by omega),fun y=>?_,fun q hq=>?_⟩
 ·rw [eK]
  unfold eR
  by_cases hy:y=xn
  ·rw [if_pos (by rw [hy]),if_pos hy]; rfl
  ·rw [if_neg (fun z=>hy (Sum.inr.inj z)),if_neg hy]; exact e2 y
 ·rcases uk hq with e | ⟨r,hr,e⟩
  ·exact⟨xn,kd,e,by unfold eR; rw [if_pos rfl]⟩
  ·obtain⟨x,k,ex,ek⟩:=e3 r hr
   rw [← e]
   by_cases hy:x=xn
   ·exact⟨x,kd,ex,by unfold eR; rw [if_pos hy]⟩
   ·exact⟨x,k,ex,by unfold eR; rw [if_neg hy]; exact ek⟩
section
abbrev eU:Stmt:=top 51
theorem zbv:ai ["_law_scope","_law_made","_law_name_here","_law_kind"] lE5 (ag eU):=by walk_at "F"
inductive spMeant(vs:List V)(H:Hp)(Q:VK)(e3_:XK):Prop | mk (a:Addr) (ps:List (Str×Str)) (_:vs=[.ref a]) (_:ScL H a ps) (_:ps.length≤3) (_:∀ d H',ScM H' d (cb ps) ps.length→al H H'→H d=none→Q (.ref d) H')
theorem tI(F:ah K mg "_law_meant" eU lE5)(Z:Bl mg):Def P w K mg base "_law_meant" 1 lE5 spMeant:=by
 have SC:=zbv
 refine F.mk' (k:=0) zbv (fun vs H Q E h=>?_) (fun f cdv A outer s H vs Q E hr h=>?_)
 ·obtain⟨a,ps,rfl,_⟩:=h
  rfl
 ·obtain⟨a,ps,rfl,⟨bs,ha,hp⟩,hl,q⟩:=h
  refine'⟨_,?dv,?_⟩
  case dv=>(have:=aj 15 216 8 45; walk_at "S2")
  refine fun d hd=>?_
  have s1:=ac hd (.dK [])
  have pl:=Paired.length hp
  refine⟨_,rfl,a,rfl,⟨_,SqL.of (s1 _ _ ha)⟩,?_⟩
  refine jm (K:=K) (a:=a) (xs:=bs.map V.ref) (fun i σ H2=>∃ (v2 v3:Option V),σ=[some (.ref a),some (.ref d),v2,v3]∧al H H2∧ScM H2 d (cb (ps.take i)) i)
   ⟨_,_,rfl,s1,[],aa,YD _,fun _=>rfl,fun _ z=>nomatch z⟩ (by rintro i σ H2 _ ⟨_,_,_,y,_⟩;exact SqL.of (y _ _ ha)) ?_ ?_
  ·rintro i y σ H2 hi ⟨v2,v3,rfl,s2,kvs,e1,el,e2,e3⟩
   rw [YZ] at hi
   obtain⟨b,hb,rfl⟩:=YS.mp hi
   obtain⟨pr,hpr,hat⟩:=i6 hp hb
   have hil:i<ps.length:=(YV.mp hpr).1
   refine⟨b,_,rfl,SqT.of (s2 _ _ hat),rfl,_,_,rfl,_,_,rfl,rfl,?_⟩
   refine⟨_,rfl,_,rfl,_,rfl,d,_,rfl,oQ.k (k:=.inr pr.1) e1 (Xz (show kvs.length≤100 by omega) (by decide)),?_⟩
   refine⟨_,_,rfl,fun c o e=>by rw [ae (af e hd)]; exact s2 c o e,?_⟩
   rw [n9 hpr]
   exact ScM.put e2 e3 el _ _
  ·rintro σ H2 ⟨v2,v3,rfl,s2,m2⟩
   rw [YC,pl,Y8] at m2
   exact⟨_,rfl,q d H2 m2 s2 hd⟩
end
mutual
inductive Lk:Tr→PyData→Prop where
 | leaf (x:Str):Lk (.leaf x) (.str x)
 | lst {ts:List Tr} {ds:List PyData}:LkA ts ds→Lk (.node ts) (.list ds)
 | tup {ts:List Tr} {ds:List PyData}:LkA ts ds→Lk (.node ts) (.tuple ds)
inductive LkA:List Tr→List PyData→Prop where
 | nil:LkA [] []
 | cons {t:Tr} {d:PyData} {ts:List Tr} {ds:List PyData}:Lk t d→LkA ts ds→LkA (t::ts) (d::ds)
end
mutual
def dT:Tr→PyData
 | .leaf x=>.str x
 | .node ts=>.tuple (dTA ts)
def dTA:List Tr→List PyData
 | []=>[]
 | t::ts=>dT t::dTA ts
end
mutual
theorem zbw:∀ {t:Tr} {d:PyData},Lk t d→d.showable=true
 | _,_,.leaf x=>by simp only [XJ]
 | _,_,.lst r=>by simp only [XJ]; exact ei r
 | _,_,.tup r=>by simp only [XJ]; exact ei r
theorem ei:∀ {t:List Tr} {d:List PyData},LkA t d→XA d=true
 | _,_,.nil=>by simp only [XA]
 | _,_,.cons h r=>by simp only [XA,zbw h,ei r,Bool.and_self]
end
mutual
theorem zbx:∀ {t:Tr} {d:PyData},Lk t d→d.depth=dep t
 | _,_,.leaf x=>by rw [Y6,dep]
 | _,_,.lst r=>by rw [Y6,dep,ic r,Nat.add_comm]
 | _,_,.tup r=>by rw [Y6,dep,ic r,Nat.add_comm]
theorem ic:∀ {t:List Tr} {d:List PyData},LkA t d→YQ d=iB t
 | _,_,.nil=>by rw [YQ,iB]
 | _,_,.cons h r=>by rw [YQ,iB,zbx h,ic r]
end
section
abbrev dm:Stmt:=top 52
theorem zby:ai ["_law_pot_here","_law_scope","_law_kind","_law_meant_here","_law_names"] lB6 (ag dm):=by walk_at "F"
inductive spVar(vs:List V)(H:Hp)(Q:VK)(e3_:XK):Prop | mk (p a:Addr) (ps:List (Str×Str)) (kd:Str) (_:vs=[.ref p,.ref a,.str kd]) (_:bf H p) (_:ScL H a ps) (_:ps.length≤3) (_:∀ v H',(v=.non∨∃ x,v=.str x∧cb ps x=some kd)→aw p H H'→Q v H')
theorem x9(F:ah K mg "_law_variable" dm lB6)(Z:Bl mg)(D_law_draw:Def P w K mg base "_law_draw" 1 lA5 spDraw)(D_law_meant:Def P w K mg base "_law_meant" 1 lE5 spMeant):Def P w K mg base "_law_variable" 2 lB6 spVar:=by
 have SC:=zby
 refine F.mk' (k:=1) zby (fun vs H Q E h=>?_) (fun f cdv A outer s H vs Q E hr h=>?_)
 ·obtain⟨p,a,ps,kd,rfl,_⟩:=h
  rfl
 ·obtain⟨p,a,ps,kd,rfl,hp,hs,hl,q⟩:=h
  refine'⟨_,?dv,?_⟩
  case dv=>(have:=aj 16 221 7 23; have:=aj 17 220 74 105; have:=aj 18 220 55 70; have:=aj 19 220 4 119; have:=bB 220 4 119 1 ["_law_name_here","_law_pot_here","_law_scope","_law_kind","_law_meant_here","_law_names"]; have:=aj 20 221 7 23; walk_at "S2")
  refine⟨_,rfl,a,ps,rfl,hs,hl,fun d H1 hm s1 hd=>?_⟩
  obtain⟨kvs,e1,el,e2,e3⟩:=hm
  refine⟨d,kvs,e1,fun ob=>?_⟩
  have lz:kvs.length≤sizeLine:=YE (show kvs.length≤3 by omega) (by decide)
  generalize hF:upd H1 d (.frz ob (.dK kvs))=HF
  have eF:HF d=some (.frz ob (.dK kvs)):=by rw [← hF]; exact aa
  refine⟨_,rfl,d,ob,kvs,rfl,eF,fun cl C ex s0 Hc=>?_⟩
  refine⟨fun i m ys σ' H2=>H2=HF∧m=kvs.length-i∧i≤kvs.length∧ys.length≤i∧(∃ v0,σ'=[v0,some (.ref p),some (.ref a),some (.str kd),some (.ref d),none])∧∀ y∈ys,∃ x,y=.str x∧cb ps x=some kd,⟨_,rfl,rfl,YO _,YD _,⟨_,rfl⟩,fun _ z=>nomatch z⟩,?_⟩
  rintro i m ys σ' H2 ⟨rfl,rfl,hi,hy,⟨v0,rfl⟩,hall⟩
  by_cases hlt:i<kvs.length
  ·refine .inr ⟨⟨kvs,eF,hlt⟩,by omega,fun x H' hyl=>?_⟩
   obtain⟨rfl,hx⟩:=hyl
   obtain⟨kv,ek,rfl⟩:=hx kvs eF
   obtain⟨z,k,ez,hz⟩:=e3 kv (YU ek)
   rw [ez]
   have hv:bj kvs (.inr z)=some (.str k):=by rw [e2,hz]; rfl
   refine⟨_,rfl,_,rfl,d,.str k,rfl,?_,_,rfl,rfl,_,rfl,?_⟩
   ·rw [← hv]; exact .inl ⟨kvs,.inr z,.inr ⟨ob,eF⟩,rfl,rfl⟩
   ·by_cases hk:k=kd
    ·subst hk
     refine ifT (by simp) ⟨fun v H3=>v=.str z∧H3=H',⟨_,rfl,rfl,rfl⟩,?_⟩
     rintro v H3 ⟨rfl,rfl⟩
     refine⟨_,?_,rfl,rfl,hlt,by rw [YY,XH]; omega,⟨_,rfl⟩,fun y hy'=>?_⟩
     ·omega
     ·rcases Y3.mp hy' with h | h
      ·exact hall y h
      ·rw [YK.mp h]; exact⟨z,rfl,hz⟩
    ·refine ifF (by simp [hk]) ⟨_,?_,rfl,rfl,hlt,by omega,⟨_,rfl⟩,hall⟩
     omega
  ·obtain rfl:i=kvs.length:=by omega
   refine .inl ⟨⟨kvs,eF,rfl⟩,fun D hD=>?_⟩
   have nD:D≠d:=Ne.symm (af eF hD)
   have hD1:H1 D=none:=by rw [← hF,ae nD] at hD; exact hD
   refine⟨by rw [ae (Ne.symm nD)]; exact eF,?_⟩
   generalize hG:upd (upd H2 D (.lst ys)) d (.dK kvs)=HG
   have gD:HG D=some (.lst ys):=by rw [← hG,ae nD]; exact aa
   have sG:al H1 HG:=fun b o e=>by
    by_cases hb:b=d
    ·subst hb
     rw [e1] at e
     rw [← hG,← e]; exact aa
    ·rw [← hG,ae hb,ae (af e hD1),← hF,ae hb]; exact e
   refine⟨_,rfl,YO _,fun l hl'=>⟨D,l,ys,rfl,rfl,SqL.of (by rw [ae (af gD hl')]; exact gD),SqL.of aa,_,rfl,?_⟩⟩
   have s2:al H (upd HG l (.lst [])):=(s1.trans sG).trans (ac hl' _)
   have wt:aw p H (upd HG l (.lst [])):=⟨hp.keep s2,s2.x⟩
   cases ys with
   | nil=>exact ifT rfl (q _ _ (.inl rfl) wt)
   | cons y0 yr=>
    refine ifF (by simp) ?_
    have gD2:upd HG l (.lst []) D=some (.lst (y0::yr)):=by rw [ae (af gD hl')]; exact gD
    have ply:(y0::yr).length≤3:=by omega
    refine⟨_,rfl,_,rfl,_,rfl,D,_,rfl,.inl (SqL.of gD2),?_⟩
    refine⟨p,_,rfl,wt.pot,by simp <;> omega,by simp at ply ⊢ <;> omega,fun r H3 r0 r1 p3 s3=>?_⟩
    have nDp:D≠p:=fun z=>by
     have:=s1.trans sG
     obtain⟨o,e⟩:=hp.some
     have e':=s1 _ _ e
     rw [← z,hD1] at e'; cases e'
    have hr1:r.toNat<(y0::yr).length:=by omega
    refine⟨D,_,r,(y0::yr)[r.toNat],rfl,rfl,SqL.of (s3 _ _ nDp gD2),aH r0 (by simp [hr1]),?_⟩
    obtain⟨x,ex,hx⟩:=hall _ (XL hr1)
    exact q _ _ (.inr ⟨x,ex,hx⟩) (wt.mk1 p3 s3)
end
mutual
def sz:Tr→Nat
 | .leaf x=>x.length
 | .node ts=>szA ts+3
def szA:List Tr→Nat
 | []=>0
 | t::ts=>sz t+1+szA ts
end
mutual
def low:Tr→Prop
 | .leaf x=>∀ c∈x.cps.toList,c<16 ^ 8
 | .node ts=>wk ts
def wk:List Tr→Prop
 | []=>True
 | t::ts=>low t∧wk ts
end
structure Fit(D W:Nat)(t:Tr):Prop where
 dp:dep t≤D
 wt:sz t≤W
 lw:low t
structure cp(D W:Nat)(t:List Tr):Prop where
 dp:iB t≤D
 wt:szA t≤W
 lw:wk t
theorem Fit.mono{D D' W W':Nat}{t:Tr}(h:Fit D W t)(h1:D≤D')(h2:W≤W'):Fit D' W' t:=⟨YE h.dp h1,YE h.wt h2,h.lw⟩
theorem cp.mono{D D' W W':Nat}{t:List Tr}(h:cp D W t)(h1:D≤D')(h2:W≤W'):cp D' W' t:=⟨YE h.dp h1,YE h.wt h2,h.lw⟩
theorem cp.nil{D:Nat}:cp D 0 []:=⟨YO _,YD _,trivial⟩
theorem cp.cons{D W W':Nat}{t:Tr}{ts:List Tr}(h:Fit D W t)(r:cp D W' ts):cp D (W+1+W') (t::ts):=⟨Nat.max_le.mpr ⟨h.dp,r.dp⟩,by rw [szA]; have:=h.wt; have:=r.wt; omega,h.lw,r.lw⟩
theorem cp.all{D W n:Nat}:∀ {ts:List Tr},(∀ t∈ts,Fit D W t)→ts.length≤n→cp D (n*(W+1)) ts
 | [],_,_=>cp.nil.mono (YD _) (YO _)
 | t::ts,h,hn=>by
  rw [YR] at hn
  obtain⟨m,rfl⟩:∃ m,n=m+1:=⟨n-1,by omega⟩
  refine(cp.cons (h t YX) (cp.all (n:=m) (fun x hx=>h x (Y0 _ hx)) (by omega))).mono (YD _) ?_
  rw [Nat.add_mul,Nat.one_mul]
  omega
theorem Fit.node{D W:Nat}{ts:List Tr}(h:cp D W ts):Fit (D+1) (W+3) (.node ts):=⟨by rw [dep]; have:=h.dp; omega,by rw [sz]; have:=h.wt; omega,h.lw⟩
theorem Fit.nm{z:Str}(h:cV z):Fit 0 12 (.leaf z):=⟨YD _,by rw [sz,iD]; exact h.2.1,fun c hc=>by have:=h.2.2 c hc; omega⟩
theorem Fit.wd:∀ z∈[("=":Str),"not","and","or","all","some"],Fit 0 4 (.leaf z):=by
 have : ∀ z∈[("=":Str),"not","and","or","all","some"],z.length≤4∧∀ c∈z.cps.toList,c<16 ^ 8:=by decide +kernel
 exact fun z hz=>⟨YD _,(this z hz).1,(this z hz).2⟩
theorem kT:∀ l:List Str,(Str.join " " l).length≤(l.map fun x=>x.length+1).sum
 | []=>YD _
 | [a]=>by
  show a.length≤a.length+1+0
  omega
 | a::b::r=>by
  have ih:=kT (b::r)
  have e:Str.join " " (a::b::r)=a++" "++Str.join " " (b::r):=rfl
  rw [e,ej,ej,Y9,List.sum_cons]
  have : (" ":Str).length=1:=rfl
  omega
mutual
theorem zbz:∀ {t:Tr} {d:PyData},Lk t d→d.weight≤sz t
 | _,_,.leaf x=>by rw [Y4,sz]; exact YD _
 | _,_,.lst r=>by rw [Y4,sz]; have:=oj r; omega
 | _,_,.tup r=>by rw [Y4,sz]; have:=oj r; omega
theorem oj:∀ {t:List Tr} {d:List PyData},LkA t d→YG d≤szA t
 | _,_,.nil=>by rw [YG,szA]; exact YD _
 | _,_,.cons h r=>by rw [YG,szA]; have:=zbz h; have:=oj r; omega
end
mutual
theorem zb0:∀ {t:Tr} {d:PyData},Lk t d→low t→d.leavesShort 8=true
 | _,_,.leaf x,l=>by
  simp only [XG,XN,decide_eq_true_eq]
  exact l
 | _,_,.lst r,l=>by simp only [XG]; exact kS r l
 | _,_,.tup r,l=>by simp only [XG]; exact kS r l
theorem kS:∀ {t:List Tr} {d:List PyData},LkA t d→wk t→Y5 8 d=true
 | _,_,.nil,_=>by simp only [Y5]
 | _,_,.cons h r,l=>by simp only [Y5,zb0 h l.1,kS r l.2,Bool.and_self]
end
abbrev fO(H:Hp)(p b:Addr)(ks:List Str)(ts:List aq)(fs:List ao):Prop:=RdV (fun a=>a≠p) H (.ref b) (pQ ks ts fs)
theorem RdV.went{p:Addr}{H H':Hp}{v:V}{d:PyData}(h:RdV (fun a=>a≠p) H v d)(s:av p H H'):RdV (fun a=>a≠p) H' v d:=h.mono (fun _ z=>z) fun a o z e=>s a o z e
theorem fO.open{H:Hp}{p b:Addr}{ks:List Str}{ts:List aq}{fs:List ao}(h:fO H p b ks ts fs):∃ k t f tv fv,H b=some (.tup [.ref k,.ref t,.ref f])∧k≠p∧H k=some (.lst (ks.map V.str))∧t≠p∧H t=some (.lst tv)∧RdA (fun a=>a≠p) H tv (ts.map lF)∧f≠p∧H f=some (.lst fv)∧RdA (fun a=>a≠p) H fv (fs.map lb):=by
 obtain⟨_,xs,e,_,h1,h2⟩:=RdV.tuple_inv h
 cases e
 obtain⟨x,y,z,rfl,hx,hy,hz⟩:=h2.three
 obtain⟨k,kx,rfl,nk,h3,h4⟩:=hx.list_inv
 obtain rfl:=h4.strs_inv
 obtain⟨t,tx,rfl,nt,h5,h6⟩:=hy.list_inv
 obtain⟨f,fx,rfl,nf,h7,h8⟩:=hz.list_inv
 exact⟨k,t,f,tx,fx,h1,nk,h3,nt,h5,h6,nf,h7,h8⟩
theorem f8{H:Hp}{p a:Addr}{o:HO}(hp:bf H p)(e:H a=some o)(n:∀ x y z:Int,o≠.lst [.int x,.int y,.int z]):a≠p:=by
 rintro rfl
 obtain⟨x,y,z,e',_⟩:=hp
 rw [e] at e'
 exact n x y z (Option.some.inj e')
theorem bJ{p:Addr}{H H':Hp}(h:bf H p)(s:av p H H'):gN H H':=fun a xs e=>s a _ (f8 h e (fun _ _ _ z=>nomatch z)) e
theorem ScL.went{H H':Hp}{p a:Addr}{ps:List (Str×Str)}(h:ScL H a ps)(hp:bf H p)(s:av p H H'):ScL H' a ps:=by
 obtain⟨bs,e,r⟩:=h.ex
 refine⟨bs,s _ _ (f8 hp e fun x y z q=>?_) e,Paired.mapP r fun b q z=>bJ hp s _ _ z⟩
 cases bs with
 | nil=>injection q with q; cases q
 | cons b r=>injection q with q; injection q with q; cases q
theorem qD{x k:Str}{ps:List (Str×Str)}(h:cb ps x=some k):∃ q∈ps,q=(x,k):=by
 have : ∀ (ps:List (Str×Str)) (S:Str→Option Str),(ps.foldl (fun S q=>eR S q.1 q.2) S) x=some k→S x=some k∨∃ q∈ps,q=(x,k):=by
  intro ps
  induction ps with
  | nil=>exact fun S h=>.inl h
  | cons q r ih=>
   intro S h
   rcases ih _ h with h | ⟨q',hq,e⟩
   ·have h:(if x=q.1 then some q.2 else S x)=some k:=h
    by_cases hx:x=q.1
    ·rw [if_pos hx] at h
     exact .inr ⟨q,YX,by rw [hx,← Option.some.inj h]⟩
    ·rw [if_neg hx] at h; exact .inl h
   ·exact .inr ⟨q',Y0 _ hq,e⟩
 rcases this ps _ h with z | z
 ·cases z
 ·exact z
theorem oa(ps:List (Str×Str))(x k:Str):cb (ps++[(x,k)])=eR (cb ps) x k:=by
 unfold cb
 rw [List.foldl_append]
 rfl
def bT:Nat→Nat
 | 0=>12
 | n+1=>18+2*bT n
theorem xg:∀ n,12≤bT n
 | 0=>YD _
 | n+1=>by rw [bT]; have:=xg n; omega
theorem jT{p:Addr}{H:Hp}{v:V}{g:ao}(h:RdV (fun a=>a≠p) H v (lb g)):∃ q pl,v=.ref q∧H q=some (.tup [.str g.nm,.ref pl,.str g.kd])∧pl≠p∧H pl=some (.lst (g.ps.map V.str)):=by
 obtain⟨q1,qx,rfl,_,h1,h2⟩:=RdV.tuple_inv h
 obtain⟨u,v,x,rfl,hu,hv,hx⟩:=h2.three
 obtain rfl:=hu.str_inv
 obtain rfl:=hx.str_inv
 obtain⟨q2,qy,rfl,n2,h3,h4⟩:=hv.list_inv
 obtain rfl:=h4.strs_inv
 exact⟨q1,q2,rfl,h1,n2,h3⟩
theorem qd{p:Addr}{H:Hp}{v:V}{g:aq}(h:RdV (fun a=>a≠p) H v (lF g)):∃ q pl,v=.ref q∧H q=some (.tup [.str g.nm,.ref pl])∧pl≠p∧H pl=some (.lst (g.ps.map V.str)):=by
 obtain⟨q1,qx,rfl,_,h1,h2⟩:=RdV.tuple_inv h
 obtain⟨u,v,rfl,hu,hv⟩:=h2.two
 obtain rfl:=hu.str_inv
 obtain⟨q2,qy,rfl,n2,h3,h4⟩:=hv.list_inv
 obtain rfl:=h4.strs_inv
 exact⟨q1,q2,rfl,h1,n2,h3⟩
section
abbrev dn:Stmt:=top 53
theorem zb6:ai ["_law_pot_here","_law_book_here","_law_scope","_law_kind","_law_deep","_law_some","_law_variable_here","_law_function","_law_terms_here"] lA3 (ag dn):=by walk_at "F"
def dA(fs:List ao)(ps:List (Str×Str))(kd:Str)(n:Nat)(H:Hp)(v:V):Prop:=v=.non∨∃ t,Tup H v t∧mW fs (cb ps) t kd∧Fit n (bT n) t
theorem dA.keep{fs:List ao}{ps:List (Str×Str)}{kd:Str}{n:Nat}{H H':Hp}{v:V}(h:dA fs ps kd n H v)(s:gN H H'):dA fs ps kd n H' v:=by
 rcases h with h | ⟨t,h1,h2⟩
 ·exact .inl h
 ·exact .inr ⟨t,dk s h1,h2⟩
theorem dA.thg{K:WB}{fs:List ao}{ps:List (Str×Str)}{kd:Str}{n:Nat}{H:Hp}{v:V}(h:dA fs ps kd n H v):Thg K H v:=by
 rcases h with h | ⟨t,h1,h2⟩
 ·exact .inl h
 ·cases h1 with
  | leaf x=>exact .inr (.inl ⟨x,rfl⟩)
  | node e r=>exact .inr (.inr ⟨_,_,rfl,SqT.of e⟩)
theorem dD{α β:Type}{F:α→β→Prop}{x:α}{y:β}(h:F x y):∀ {a:List α} {b:List β},Paired F a b→Paired F (a++[x]) (b++[y])
 | _,_,.nil=>.cons h .nil
 | _,_,.cons f r=>.cons f (dD h r)
theorem gb{α β:Type}{F:α→β→Prop}{x:α}:∀ {a:List α} {b:List β},Paired F a b→x∈a→∃ y∈b,F x y
 | _,_,.nil,h=>by cases h
 | _,_,.cons f r,h=>by
  rcases YM.mp h with rfl | h
  ·exact⟨_,YX,f⟩
  ·obtain⟨y,hy,q⟩:=gb r h
   exact⟨y,Y0 _ hy,q⟩
theorem oA{fs:List ao}{ps:List (Str×Str)}{n:Nat}{H:Hp}:∀ {ys:List V} {ks:List Str},Paired (fun y k=>dA fs ps k n H y) ys ks→(ys.any fun v=>decide (v=.non))=false→∃ l,de H ys l∧dG fs (cb ps) l ks∧∀ t∈l,Fit n (bT n) t
 | _,_,.nil,_=>⟨[],.nil,.nil,fun _ z=>nomatch z⟩
 | _,_,.cons f r,h=>by
  rw [XW,Bool.or_eq_false_iff] at h
  obtain⟨l,h1,h2,h3⟩:=oA r h.2
  rcases f with rfl | ⟨t,a1,a2,a3⟩
  ·exact absurd h.1 (by simp)
  ·refine⟨t::l,.cons a1 h1,.cons a2 h2,fun u hu=>?_⟩
   rcases YM.mp hu with rfl | hu
   ·exact a3
   ·exact h3 u hu
inductive spTmD(n:Nat)(vs:List V)(H:Hp)(Q:VK)(e3_:XK):Prop | mk (p b a:Addr) (ps:List (Str×Str)) (kd:Str) (ks:List Str) (ts:List aq) (fs:List ao) (_:vs=[.ref p,.ref b,.ref a,.str kd,.int n]) (_:bf H p) (_:fO H p b ks ts fs) (_:aU ks ts fs) (_:ScL H a ps) (_:ps.length≤3) (_:(∀ q∈ps,cV q.1)) (_:∀ v H',dA fs ps kd n H' v→aw p H H'→Q v H')
def nB:Nat→Sp
 | 0=>fun _ _ _ _=>False
 | n+1=>spTmD n
theorem qj{m:Nat}{vs:List V}{H:Hp}{Q:VK}{E:XK}(h:spTmD m vs H Q E):nB (m+1) vs H Q E:=h
theorem jM(F:ah K mg "_law_term" dn lA3)(Z:Bl mg)(D_law_draw:Def P w K mg base "_law_draw" 1 lA5 spDraw)(D_law_variable:Def P w K mg base "_law_variable" 2 lB6 spVar)(n:Nat)
  (D_law_term:Def P w K mg base "_law_term" (n+2) lA3 (nB n)):Def P w K mg base "_law_term" (n+3) lA3 (spTmD n):=by
 have SC:=zb6
 refine F.mk' (k:=n+2) zb6 (fun vs H Q E h=>?_) (fun f cdv A outer s H vs Q E hr h=>?_)
 ·obtain⟨p,b,a,ps,kd,ks,ts,fs,rfl,_⟩:=h
  rfl
 ·obtain⟨p,b,a,ps,kd,ks,ts,fs,rfl,hp,hb,ok,hs,hl,hn,q⟩:=h
  refine'⟨_,?dv,?_⟩
  case dv=>(have:=aj 21 232 7 30; have:=aj 11 234 11 55; have:=aj 16 228 7 22; have:=aj 10 226 52 69; have:=aj 10 231 121 137; have:=aj 10 234 12 28; have:=aj 10 226 73 89; have:=bB 226 4 103 1 ["_law_function","_law_pot_here","_law_book_here","_law_scope","_law_kind","_law_deep","_law_some","_law_variable_here",".h_law_function","_law_terms_here"]; have:=bB 231 4 138 1 ["_law_place","_law_pot_here","_law_book_here","_law_scope","_law_kind","_law_deep","_law_some","_law_variable_here","_law_function","_law_terms_here"]; have:=aj 22 232 7 30; have:=aj 20 228 7 22; walk_at "S2")
  obtain⟨x0,x1,x2,ep,ha,hb0,hb1⟩:=id hp
  refine⟨_,rfl,p,_,2,.int x2,rfl,rfl,by decide,SqL.of ep,rfl,_,_,rfl,rfl,p,_,2,2,rfl,rfl,ep,rfl,?_⟩
  generalize hHA:upd H p (.lst (List.set [V.int x0,V.int x1,V.int x2] 2 (V.int (x2-1))))=HA
  have wA:aw p H HA:=⟨⟨x0,x1,x2-1,by rw [← hHA]; exact aa,ha,hb0,hb1⟩,by rw [← hHA]; exact av.upd _ _ _⟩
  have bA:=RdV.went hb wA.same
  obtain⟨kA,tA,fA,tv,fv,eb,nk,ek,nt,et,rt,nf,ef,rf⟩:=fO.open bA
  have fl:fv.length=fs.length:=by rw [RdA.length rf,YC]
  have ok8:=ok.sl
  refine⟨_,rfl,b,_,2,.ref fA,rfl,rfl,SqT.of eb,rfl,fA,rfl,⟨_,SqL.of ef⟩,fun cl C ex s0 Hc=>?_⟩
  refine⟨fun i m ys σ' H2=>H2=HA∧m=fv.length-i∧i≤fv.length∧ys.length≤i∧(∃ v0,σ'=[v0,some (.ref p),some (.ref b),some (.ref a),some (.str kd),some (.int n),none,none,none,none])∧∀ y∈ys,∃ g∈fs,RdV (fun a=>a≠p) HA y (lb g)∧g.kd=kd,⟨_,rfl,rfl,YO _,YD _,⟨_,rfl⟩,fun _ z=>nomatch z⟩,?_⟩
  rintro i m ys σ' H2 ⟨rfl,rfl,hi,hy,⟨v0,rfl⟩,hall⟩
  by_cases hlt:i<fv.length
  ·refine .inr ⟨⟨fv,fv[i],SqL.of ef,by simp [hlt]⟩,Xz (show ys.length≤8 by omega) (by decide),fun x H' hyl=>?_⟩
   obtain⟨rfl,hx⟩:=hyl
   have hx:=hx fv (SqL.of ef)
   obtain⟨d,ed,rd⟩:=RdA.getV rf hx
   rw [YZ] at ed
   obtain⟨g,eg,rfl⟩:=YS.mp ed
   obtain⟨q1,q2,rfl,e1,n2,e2⟩:=jT rd
   refine⟨_,rfl,q1,_,2,.str g.kd,rfl,rfl,SqT.of e1,rfl,_,rfl,rfl,_,rfl,?_⟩
   by_cases hk:g.kd=kd
   ·refine ifT (by simp [hk]) ⟨fun v H3=>v=.ref q1∧H3=H',⟨_,rfl,rfl,rfl⟩,?_⟩
    rintro v H3 ⟨rfl,rfl⟩
    refine⟨_,?_,rfl,rfl,hlt,by rw [YY,XH]; omega,⟨_,rfl⟩,fun y hy'=>?_⟩
    ·omega
    ·rcases Y3.mp hy' with h | h
     ·exact hall y h
     ·rw [YK.mp h]; exact⟨g,YU eg,rd,hk⟩
   ·refine ifF (by simp [hk]) ⟨_,?_,rfl,rfl,hlt,by omega,⟨_,rfl⟩,hall⟩
    omega
  ·obtain rfl:i=fv.length:=by omega
   refine .inl ⟨⟨fv,SqL.of ef,YD _⟩,fun D hD=>?_⟩
   have wB:aw p H2 (upd H2 D (.lst ys)):=(aw.refl wA.pot).new hD _
   have nDp:D≠p:=Ne.symm (wA.ne hD)
   refine⟨_,rfl,_,rfl,_,rfl,p,a,ps,kd,rfl,wB.pot,(hs.went hp wA.same).went wA.pot wB.same,hl,fun vv H3 hv w3=>?_⟩
   have wC:=wB.trans w3
   have gD:H3 D=some (.lst ys):=w3.at nDp aa
   have hvD:∀ H',dA fs ps kd n H' vv:=fun H'=>by
    rcases hv with rfl | ⟨x,rfl,hx⟩
    ·exact .inl rfl
    ·refine .inr ⟨.leaf x,.leaf x,.var hx,(Fit.nm ?_).mono (YO _) (xg n)⟩
     obtain⟨qq,hq,rfl⟩:=qD hx
     exact hn _ hq
   dsimp only [du]
   refine kD (fun σ' H'=>σ'=[some (.ref p),some (.ref b),some (.ref a),some (.str kd),some (.int n),some (.ref D),some vv,none,none]∧aw p H2 H'∧H' D=some (.lst ys)∧ys≠[]∧n≠0) ?_ (fun go=>?_)
   ·rintro σ' H5 ⟨rfl,w5,g5,yn,n0⟩
    obtain⟨m,rfl⟩:∃ m,n=m+1:=⟨n-1,by omega⟩
    have yl:0<ys.length:=List.length_pos_iff.mpr yn
    refine⟨_,rfl,_,rfl,_,rfl,D,_,rfl,.inl (SqL.of g5),?_⟩
    refine⟨p,_,rfl,w5.pot,by omega,by omega,fun r H6 r0 r1 p6 s6=>?_⟩
    have hr1:r.toNat<ys.length:=by omega
    refine⟨D,_,r,ys[r.toNat],rfl,rfl,SqL.of (s6 _ _ nDp g5),aH r0 (by simp [hr1]),?_⟩
    obtain⟨g,hg,rg,gk⟩:=hall _ (XL hr1)
    have w6:aw p H2 H6:=w5.mk1 p6 s6
    obtain⟨q1,q2,eq,e1,n2,e2⟩:=jT (RdV.went rg w6.same)
    rw [eq]
    obtain⟨gn,g2,gks,_⟩:=ok.fn g hg
    refine⟨_,rfl,q1,_,1,.ref q2,rfl,rfl,SqT.of e1,rfl,q2,rfl,⟨_,SqL.of e2⟩,fun cl C ex s0 Hc=>?_⟩
    have bk:∀ {H7},aw p H6 H7→fO H7 p b ks ts fs:=fun w7=>RdV.went bA (w6.trans w7).same
    have sc:∀ {H7},aw p H6 H7→ScL H7 a ps:=fun w7=>(hs.went hp wA.same).went wA.pot (w6.trans w7).same
    refine bi (g.ps.map V.str).length (fun i ys7 H7=>aw p H6 H7∧Paired (fun y k=>dA fs ps k m H7 y) ys7 (g.ps.take i)) (fun i y=>(g.ps.map V.str)[i]? = some y) ⟨aw.refl p6,.nil⟩ (by rw [YC]; exact YE g2 (by decide))
     (fun i ys7 H7 hi _ h=>dF (SqL.of (h.1.at n2 e2)) hi) (fun ys7 H7 _ h=>ck (SqL.of (h.1.at n2 e2))) ?_ ?_
    ·rintro i y ys7 H7 hi hy7 yl7 ⟨w7,dr7⟩
     rw [YZ] at hy7
     obtain⟨k,hk,rfl⟩:=YS.mp hy7
     refine⟨_,rfl,_,rfl,_,rfl,_,rfl,_,rfl,_,_,rfl,rfl,?_⟩
     refine qj (E:=E0) ⟨p,b,a,ps,k,ks,ts,fs,?_,w7.pot,bk w7,ok,sc w7,hl,hn,fun v H8 hv8 w8=>⟨w7.trans w8,?_⟩⟩
     ·have : ((m+1:Nat):Int) - 1=(m:Int):=by omega
      show [V.ref p,V.ref b,V.ref a,V.str k,V.int (((m+1:Nat):Int) - 1)]=_
      rw [this]
     ·rw [Y7,hk]
      have h7:Paired (fun y k=>dA fs ps k m H8 y) ys7 (g.ps.take i):=Paired.mapP dr7 fun y k z=>dA.keep z (bJ w7.pot w8.same)
      exact dD (F:=fun y k=>dA fs ps k m H8 y) hv8 h7
    ·rintro ys7 H7 yl7 ⟨w7,dr7⟩ D2 hD2
     rw [YC,Y8] at dr7
     have w8:aw p H6 (upd H7 D2 (.lst ys7)):=w7.new hD2 _
     have dr8:Paired (fun y k=>dA fs ps k m (upd H7 D2 (.lst ys7)) y) ys7 g.ps:=Paired.mapP dr7 fun y k z=>dA.keep z (al.tups (ac hD2 (.lst ys7)))
     refine⟨_,rfl,D2,ys7,rfl,rfl,SqL.of aa,fun v hv7=>(gb dr8 hv7).elim fun k hk=>dA.thg hk.2,_,rfl,?_⟩
     by_cases hany:(ys7.any fun v=>decide (v=.non))=true
     ·exact ifT hany ⟨_,rfl,q _ _ (hvD _) (wA.trans (w6.trans w8))⟩
     ·refine ifF hany ?_
      obtain⟨l,l1,l2,l3⟩:=oA dr8 (Bool.eq_false_iff.mpr hany)
      have w8':=w6.trans w8
      have e8:upd H7 D2 (.lst ys7) q1=some (.tup [.str g.nm,.ref q2,.str g.kd]):=(al.tups (ac hD2 (.lst ys7))) _ _ (bJ p6 w7.same _ _ e1)
      refine⟨_,rfl,q1,_,0,.str g.nm,rfl,rfl,SqT.of e8,rfl,(by show 1≤sizeLine; decide),fun t1 ht1=>?_⟩
      have u1:upd (upd H7 D2 (.lst ys7)) t1 (.tup [.str g.nm]) D2=some (.lst ys7):=by rw [ae (af aa ht1)]; exact aa
      refine⟨_,rfl,D2,ys7,rfl,.inl ⟨SqL.of u1,fun t2 ht2=>?_⟩⟩
      have s1:=ac ht1 (.tup [.str g.nm])
      have s2:=ac ht2 (.tup ys7)
      have yl2:ys7.length≤2:=by rw [yl7,YC]; exact g2
      refine lh (s2 _ _ aa) aa (YE (show 1+ys7.length≤3 by omega) (by decide)) fun pp H9 e9 s9=>?_
      have s8:=(s1.trans s2).trans s9
      refine q _ _ (.inr ⟨.node (.leaf g.nm::l),.node e9 (.cons (.leaf _) (cE (al.tups s8) l1)),by rw [← gk]; exact .app hg l2,?_⟩) ?_
      ·refine(Fit.node (cp.cons ((Fit.nm gn.1).mono (YO m) (YD _)) (cp.all (n:=2) l3 (by rw [dG.length l2]; exact g2)))).mono (YD _) ?_
       rw [bT]; omega
      ·exact(wA.trans w8').mk1 (w8'.pot.keep s8) s8.x
   ·have tell:∀ H',aw p H2 H'→Q vv H':=fun H' w'=>q _ _ (hvD _) (wA.trans w')
    refine⟨_,rfl,YO _,fun l hl'=>⟨D,l,ys,rfl,rfl,SqL.of (by rw [ae (af gD hl')]; exact gD),SqL.of aa,_,rfl,?_⟩⟩
    have wD:=wC.new hl' (.lst [])
    have gD4:upd H3 l (.lst []) D=some (.lst ys):=by rw [ae (af gD hl')]; exact gD
    by_cases yn:ys=[]
    ·exact ifT (by rw [yn]; rfl) (ifT rfl ⟨_,rfl,tell _ wD⟩)
    refine ifF (by simpa using yn) ⟨_,rfl,rfl,_,rfl,?_⟩
    by_cases n0:n=0
    ·exact ifT (by simp [n0]) (ifT rfl ⟨_,rfl,tell _ wD⟩)
    refine ifF (by simp; omega) ?_
    obtain⟨c0,c1,c2,ec,hc0,hc1,hc2⟩:=id wD.pot
    refine⟨_,rfl,p,_,2,.int c2,rfl,rfl,SqL.of ec,rfl,_,_,rfl,rfl,_,rfl,?_⟩
    by_cases c1':c2<1
    ·exact ifT (by simpa using c1') (ifT rfl ⟨_,rfl,tell _ wD⟩)
    refine ifF (by simpa using c1') ⟨_,rfl,rfl,_,rfl,?_⟩
    by_cases hvn:vv=.non
    ·exact ifF (by simp [hvn]) (ifF (by simp) (go _ _ ⟨rfl,wD,gD4,yn,n0⟩))
    refine ifT (by simp [hvn]) ⟨_,rfl,p,3,rfl,wD.pot,by decide,by decide,fun r H5 r0 r1 p5 s5=>⟨_,_,rfl,rfl,_,rfl,?_⟩⟩
    by_cases r2:r > 0
    ·exact ifT (by simpa using r2) ⟨_,rfl,tell _ (wD.mk1 p5 s5)⟩
    ·exact ifF (by simpa using r2) (go _ _ ⟨rfl,wD.mk1 p5 s5,s5 _ _ nDp gD4,yn,n0⟩)
theorem vK(F:ah K mg "_law_term" dn lA3):Def P w K mg base "_law_term" 2 lA3 (nB 0):=
 F.mk' (k:=1) zb6 (fun vs H Q E h=>False.elim h) fun f cdv A outer s H vs Q E hr h=>False.elim h
theorem sX(F:ah K mg "_law_term" dn lA3)(Z:Bl mg)(D_law_draw:Def P w K mg base "_law_draw" 1 lA5 spDraw)(D_law_variable:Def P w K mg base "_law_variable" 2 lB6 spVar):∀ n,Def P w K mg base "_law_term" (n+3) lA3 (spTmD n)
 | 0=>jM F Z D_law_draw D_law_variable 0 (vK F)
 | n+1=>jM F Z D_law_draw D_law_variable (n+1) (sX F Z D_law_draw D_law_variable n)
end
section
abbrev fZ:Stmt:=top 54
theorem zb7:ai ["_law_pot_here","_law_book_here","_law_scope","_law_deep","_law_at","_law_word","_law_places","_law_terms_here"] lA1 (ag fZ):=by walk_at "F"
inductive spAtom(vs:List V)(H:Hp)(Q:VK)(e3_:XK):Prop | mk (p b a:Addr) (ps:List (Str×Str)) (ks:List Str) (ts:List aq) (fs:List ao) (_:vs=[.ref p,.ref b,.ref a,.int 2]) (_:bf H p) (_:fO H p b ks ts fs) (_:aU ks ts fs) (_:ScL H a ps) (_:ps.length≤3) (_:(∀ q∈ps,cV q.1)) (_:∀ v H' t,Tup H' v t→fN ks ts fs (cb ps) t→Fit 3 222 t→aw p H H'→Q v H')
theorem vV(F:ah K mg "_law_atom" fZ lA1)(Z:Bl mg)(D_law_draw:Def P w K mg base "_law_draw" 1 lA5 spDraw)
  (D_law_term:Def P w K mg base "_law_term" (2+3) lA3 (spTmD 2)):Def P w K mg base "_law_atom" 6 lA1 spAtom:=by
 have SC:=zb7
 refine F.mk' (k:=5) zb7 (fun vs H Q E h=>?_) (fun f cdv A outer s H vs Q E hr h=>?_)
 ·obtain⟨p,b,a,ps,ks,ts,fs,rfl,_⟩:=h
  rfl
 ·obtain⟨p,b,a,ps,ks,ts,fs,rfl,hp,hb,ok,hs,hl,hn,q⟩:=h
  refine'⟨_,?dv,?_⟩
  case dv=>(have:=aj 21 242 7 30; have:=aj 11 244 11 48; have:=aj 10 237 21 38; have:=aj 10 238 33 50; have:=aj 23 240 39 112; have:=aj 10 236 43 60; have:=aj 10 240 40 57; have:=aj 10 240 87 104; have:=bB 241 4 129 1 ["_law_place","_law_pot_here","_law_book_here","_law_scope","_law_deep","_law_at","_law_word","_law_places","_law_terms_here"]; have:=aj 22 242 7 30; walk_at "S2")
  obtain⟨kA,tA,fA,tv,fv,eb,nk,ek,nt,et,rt,nf,ef,rf⟩:=fO.open hb
  have tl:tv.length=ts.length:=by rw [RdA.length rt,YC]
  have ok8:=ok.sl
  have ok4:=ok.k4
  have ok1:=ok.k1
  refine⟨_,rfl,_,rfl,b,_,1,.ref tA,rfl,rfl,SqT.of eb,rfl,tA,tv,rfl,.inl (SqL.of et),_,_,rfl,rfl,?_⟩
  refine⟨p,_,rfl,hp,by omega,by omega,fun r H1 r0 r1 p1 s1=>?_⟩
  have w1:aw p H H1:=⟨p1,s1⟩
  dsimp only [du]
  refine kD (fun σ' H'=>∃ (wd:Str) (pl:Addr) (ps':List Str),σ'=[some (.ref p),some (.ref b),some (.ref a),some (.int 2),some (.int r),some (.str wd),some (.ref pl),none]∧aw p H H'∧pl≠p∧H' pl=some (.lst (ps'.map V.str))∧ps'.length≤2∧(∀ l,dG fs (cb ps) l ps'→fN ks ts fs (cb ps) (.node (.leaf wd::l)))∧Fit 0 12 (.leaf wd)) ?_ (fun go=>?_)
  ·rintro σ' H5 ⟨wd,pl,ps',rfl,w5,n5,e5,l5,mk,fw⟩
   refine⟨_,rfl,pl,rfl,⟨_,SqL.of e5⟩,fun cl C ex s0 Hc=>?_⟩
   refine bi (ps'.map V.str).length (fun i ys7 H7=>aw p H5 H7∧Paired (fun y k=>dA fs ps k 2 H7 y) ys7 (ps'.take i)) (fun i y=>(ps'.map V.str)[i]? = some y) ⟨aw.refl w5.pot,.nil⟩ (by rw [YC]; exact YE l5 (by decide))
    (fun i ys7 H7 hi _ h=>dF (SqL.of (h.1.at n5 e5)) hi) (fun ys7 H7 _ h=>ck (SqL.of (h.1.at n5 e5))) ?_ ?_
   ·rintro i y ys7 H7 hi hy7 yl7 ⟨w7,dr7⟩
    rw [YZ] at hy7
    obtain⟨k,hk,rfl⟩:=YS.mp hy7
    refine⟨_,rfl,_,rfl,_,rfl,_,rfl,_,rfl,?_⟩
    refine⟨p,b,a,ps,k,ks,ts,fs,rfl,w7.pot,RdV.went hb (w5.trans w7).same,ok,hs.went hp (w5.trans w7).same,hl,hn,fun v H8 hv8 w8=>⟨w7.trans w8,?_⟩⟩
    rw [Y7,hk]
    have h7:Paired (fun y k=>dA fs ps k 2 H8 y) ys7 (ps'.take i):=Paired.mapP dr7 fun y k z=>dA.keep z (bJ w7.pot w8.same)
    exact dD (F:=fun y k=>dA fs ps k 2 H8 y) hv8 h7
   ·rintro ys7 H7 yl7 ⟨w7,dr7⟩ D2 hD2
    rw [YC,Y8] at dr7
    have w8:aw p H5 (upd H7 D2 (.lst ys7)):=w7.new hD2 _
    have dr8:Paired (fun y k=>dA fs ps k 2 (upd H7 D2 (.lst ys7)) y) ys7 ps':=Paired.mapP dr7 fun y k z=>dA.keep z (al.tups (ac hD2 (.lst ys7)))
    have w9:=w5.trans w8
    refine⟨_,rfl,D2,ys7,rfl,rfl,SqL.of aa,fun v hv7=>(gb dr8 hv7).elim fun k hk=>dA.thg hk.2,_,rfl,?_⟩
    by_cases hany:(ys7.any fun v=>decide (v=.non))=true
    ·refine ifT hany ⟨(by show 2≤sizeLine; decide),fun L hL=>⟨_,rfl,p,2,rfl,w9.pot.keep (ac hL _),by decide,by decide,fun r2 H9 r20 r21 p9 s9=>?_⟩⟩
     have wL:=w9.new hL (.lst [.str "and",.str "or"])
     have nL:L≠p:=Ne.symm (w9.ne hL)
     have wz:=wL.mk1 p9 s9
     have fin:∀ w:Str,w="and"∨w="or"→∀ t,H9 t=none→Q (.ref t) (upd H9 t (.tup [.str w])):=fun w hw t ht=>q _ _ (.node [.leaf w]) (.node aa (.cons (.leaf _) .nil)) (.conn hw (by decide) .nil)
      ((Fit.node (cp.cons (Fit.wd w (by rcases hw with rfl | rfl <;> simp)) cp.nil)).mono (by decide) (by decide)) (wz.new ht _)
     have hc:r2=0∨r2=1:=by omega
     rcases hc with rfl | rfl
     ·exact⟨L,_,0,.str "and",rfl,rfl,SqL.of (s9 _ _ nL aa),rfl,(by show 1≤sizeLine; decide),fin _ (.inl rfl)⟩
     ·exact⟨L,_,1,.str "or",rfl,rfl,SqL.of (s9 _ _ nL aa),rfl,(by show 1≤sizeLine; decide),fin _ (.inr rfl)⟩
    ·refine ifF hany ?_
     obtain⟨l,l1,l2,l3⟩:=oA dr8 (Bool.eq_false_iff.mpr hany)
     refine⟨_,rfl,(by show 1≤sizeLine; decide),fun t1 ht1=>?_⟩
     have u1:upd (upd H7 D2 (.lst ys7)) t1 (.tup [.str wd]) D2=some (.lst ys7):=by rw [ae (af aa ht1)]; exact aa
     refine⟨_,rfl,D2,ys7,rfl,.inl ⟨SqL.of u1,fun t2 ht2=>?_⟩⟩
     have s1:=ac ht1 (.tup [.str wd])
     have s2:=ac ht2 (.tup ys7)
     have yl2:ys7.length≤2:=by rw [yl7,YC]; exact l5
     refine lh (s2 _ _ aa) aa (YE (show 1+ys7.length≤3 by omega) (by decide)) fun pp H9 e9 s9=>?_
     have s8:=(s1.trans s2).trans s9
     refine q _ _ (.node (.leaf wd::l)) (.node e9 (.cons (.leaf _) (cE (al.tups s8) l1))) (mk l l2) ?_ (w9.mk1 (w9.pot.keep s8) s8.x)
     exact(Fit.node (cp.cons (fw.mono (YO 2) (YD _)) (cp.all (n:=2) l3 (by rw [dG.length l2]; exact l5)))).mono (by decide) (by decide)
  ·have b1:=RdV.went hb s1
   obtain⟨kB,tB,fB,tv',fv',eb1,nk1,ek1,nt1,et1,rt1,_⟩:=fO.open b1
   refine⟨_,rfl,_,rfl,b,_,1,.ref tB,rfl,rfl,SqT.of eb1,rfl,tB,tv',rfl,.inl (SqL.of et1),_,_,rfl,rfl,_,rfl,?_⟩
   by_cases hr:r<tv'.length
   ·have hr1:r.toNat<tv'.length:=by omega
    obtain⟨d,ed,rd⟩:=RdA.getV rt1 (i:=r.toNat) (x:=tv'[r.toNat]) (by simp [hr1])
    rw [YZ] at ed
    obtain⟨g,eg,rfl⟩:=YS.mp ed
    have hg:=YU eg
    obtain⟨q1,q2,eq,e1,n2,e2⟩:=qd rd
    refine ifT (by simpa using hr) ⟨_,rfl,b,_,1,.ref tB,rfl,rfl,SqT.of eb1,rfl,_,rfl,tB,tv',r,tv'[r.toNat],rfl,rfl,SqL.of et1,aH r0 (by simp [hr1]),?_⟩
    rw [eq]
    exact⟨q1,_,rfl,SqT.of e1,rfl,_,_,rfl,_,_,rfl,rfl,go _ _ ⟨g.nm,q2,g.ps,rfl,w1,n2,e2,(ok.tn g hg).2.1,fun l hl=>.tie hg hl,Fit.nm (ok.tn g hg).1.1⟩⟩
   ·refine ifF (by simpa using hr) ⟨_,rfl,b,_,0,.ref kB,rfl,rfl,SqT.of eb1,rfl,_,rfl,_,rfl,b,_,0,.ref kB,rfl,rfl,SqT.of eb1,rfl,kB,_,rfl,.inl (SqL.of ek1),?_⟩
    rw [YC]
    refine⟨p,_,rfl,p1,by omega,by omega,fun r2 H2 r20 r21 p2 s2=>?_⟩
    have hr2:r2.toNat<ks.length:=by omega
    have hk:ks[r2.toNat]? = some ks[r2.toNat]:=by simp [hr2]
    refine⟨kB,_,r2,.str ks[r2.toNat],rfl,rfl,SqL.of (s2 _ _ nk1 ek1),aH r20 (by rw [YZ,hk]; rfl),(by show 1≤sizeLine; decide),fun L hL=>?_⟩
    refine⟨L,2,_,rfl,rfl,aa,by decide,by decide,(by show 1*2≤sizeLine; decide),fun L2 hL2=>⟨_,_,rfl,?_⟩⟩
    have w2:=((w1.mk1 p2 s2).new hL (.lst [.str ks[r2.toNat]]))
    refine go _ _ ⟨"=",L2,[ks[r2.toNat],ks[r2.toNat]],rfl,w2.new hL2 _,Ne.symm (w2.ne hL2),aa,YD 2,fun l hl=>?_,(Fit.wd _ (by simp)).mono (YD _) (by decide)⟩
    cases hl with
    | cons a1 r1=>
     cases r1 with
     | cons a2 r2=>
      cases r2
      exact .eq a1 a2
end
def iz(c:Nat):Bool:=!(Builtin.Str.occurrences abc ⟨#[c]⟩ 0 abc.length 1).isEmpty
def nmB(z:Str):Bool:=decide (1≤z.cps.toList.length)&&decide (z.cps.toList.length≤12)&&z.cps.toList.all iz
theorem zm{z:Str}(h:cV z):nmB z=true:=by
 obtain⟨h1,h2,h3⟩:=h
 unfold nmB
 rw [decide_eq_true h1,decide_eq_true h2]
 show z.cps.toList.all iz=true
 rw [XN]
 intro c hc
 obtain⟨c0,c1⟩:=h3 c hc
 exact uq c0 c1
abbrev Sco:=Str→Option Str
def Sco.put(sc:Sco)(x k:Str):Sco:=fun y=>if y=x then some k else sc y
def eM(ts:List aq)(x:Str):Option (List Str):=(ts.find? fun t=>t.nm==x).map (·.ps)
def fJ(fs:List ao)(x:Str):Option (List Str×Str):=(fs.find? fun t=>t.nm==x).map fun t=>(t.ps,t.kd)
mutual
def aV(fs:List ao)(sc:Sco):PyData→Option Str
 | .str x=>sc x
 | .list xs=>mS fs sc xs
 | .tuple xs=>mS fs sc xs
 | _=>none
def mS(fs:List ao)(sc:Sco):List PyData→Option Str
 | .str f::xs=>match fJ fs f with
  | some (ps,k)=>if bI fs sc xs ps then some k else none
  | none=>none
 | _=>none
def bI(fs:List ao)(sc:Sco):List PyData→List Str→Bool
 | [],[]=>true
 | x::xs,p::ps=>aV fs sc x==some p&&bI fs sc xs ps
 | _,_=>false
end
def eqD(fs:List ao)(sc:Sco):List PyData→Bool
 | [x,y]=>(aV fs sc x).isSome&&aV fs sc x==aV fs sc y
 | _=>false
mutual
def bg(ks:List Str)(ts:List aq)(fs:List ao):PyData→Sco→Bool
 | .list xs,sc=>eB ks ts fs xs sc
 | .tuple xs,sc=>eB ks ts fs xs sc
 | _,_=>false
def eB(ks:List Str)(ts:List aq)(fs:List ao):List PyData→Sco→Bool
 | .str w::xs,sc=>
  if w="=" then eqD fs sc xs
  else if w="not" then xs.length==1&&bO ks ts fs xs sc
  else if w="and"∨w="or" then bO ks ts fs xs sc
  else if w="all"∨w="some" then dy ks ts fs xs sc
  else match eM ts w with
   | some ps=>bI fs sc xs ps
   | none=>false
 | _,_=>false
def bO(ks:List Str)(ts:List aq)(fs:List ao):List PyData→Sco→Bool
 | [],_=>true
 | x::xs,sc=>bg ks ts fs x sc&&bO ks ts fs xs sc
def dy(ks:List Str)(ts:List aq)(fs:List ao):List PyData→Sco→Bool
 | .str v::.str k::x::r,sc=>r.isEmpty&&nmB v&&ks.contains k&&bg ks ts fs x (sc.put v k)
 | _,_=>false
end
mutual
def tupD:PyData→PyData
 | .list xs=>.tuple (be xs)
 | .tuple xs=>.tuple (be xs)
 | d=>d
def be:List PyData→List PyData
 | []=>[]
 | x::xs=>tupD x::be xs
end
theorem bt:∀ xs:List PyData,be xs=xs.map tupD
 | []=>rfl
 | x::xs=>by rw [be,bt xs]; rfl
def xx:Option HO→Option (List V)
 | some (.lst xs)=>some xs
 | some (.tup xs)=>some xs
 | _=>none
def i0(H:Hp):V→Option (List V)
 | .ref a=>xx (H a)
 | _=>none
theorem iZ{H:Hp}{a:Addr}{xs:List V}(h:LT H a xs):i0 H (.ref a)=some xs:=by
 show xx (H a)=some xs
 rcases h with h | h <;> (rw [h]; rfl)
theorem gs{H:Hp}{a:Addr}{kvs:List (Key×V)}(h:H a=some (.dK kvs)):i0 H (.ref a)=none:=by
 show xx (H a)=none
 rw [h]; rfl
inductive Sh(H:Hp):V→Prop where
 | non:Sh H .non
 | bl (b:Bool):Sh H (.bl b)
 | int (i:Int):Sh H (.int i)
 | str (z:Str):Sh H (.str z)
 | row {a:Addr} {xs:List V} (h:LT H a xs):Sh H (.ref a)
 | dct {a:Addr} {kvs:List (Key×V)} (h:H a=some (.dK kvs)):Sh H (.ref a)
theorem Sh.same{H H':Hp}{v:V}(h:Sh H v)(s:al H H'):Sh H' v:=by
 cases h with
 | non=>exact .non
 | bl b=>exact .bl b
 | int i=>exact .int i
 | str z=>exact .str z
 | row h=>exact .row (h.same s)
 | dct h=>exact .dct (s _ _ h)
theorem Sh.rows{H H':Hp}{v:V}(h:Sh H v)(s:al H H'):i0 H' v=i0 H v:=by
 cases h with
 | non=>rfl
 | bl b=>rfl
 | int i=>rfl
 | str z=>rfl
 | row h=>rw [iZ h,iZ (h.same s)]
 | dct h=>rw [gs h,gs (s _ _ h)]
theorem Sh.isi2{K:WB}{H:Hp}{v:V}(h:Sh H v):∃ t,eI K H v t∧PySem.W.kitAny K t [.type "list",.type "tuple"]=some (i0 H v).isSome:=by
 cases h with
 | non=>exact⟨_,.non,rfl⟩
 | bl b=>exact⟨_,.bl b,rfl⟩
 | int i=>exact⟨_,.int i,rfl⟩
 | str z=>exact⟨_,.str z,rfl⟩
 | row h=>
  obtain⟨t,h1,h2⟩:=h.isi2 (K:=K)
  exact⟨t,h1,by rw [iZ h]; exact h2⟩
 | dct h=>exact⟨_,.dK h,by rw [gs h]; rfl⟩
def dE:V→Bool
 | .str _=>true
 | _=>false
theorem Sh.isS{K:WB}{H:Hp}{v:V}(h:Sh H v):∃ t,eI K H v t∧PySem.W.kitOne K t (.type "str")=some (dE v):=by
 cases h with
 | non=>exact⟨_,.non,rfl⟩
 | bl b=>exact⟨_,.bl b,rfl⟩
 | int i=>exact⟨_,.int i,rfl⟩
 | str z=>exact⟨_,.str z,rfl⟩
 | row h=>
  rcases h with h | h
  ·exact⟨_,.lst h,rfl⟩
  ·exact⟨_,.tup h,rfl⟩
 | dct h=>exact⟨_,.dK h,rfl⟩
abbrev Rd0(H:Hp):V→PyData→Prop:=RdD (fun _=>True) H
abbrev aB(H:Hp):List V→List PyData→Prop:=RdB (fun _=>True) H
theorem Rd0.sh{H:Hp}{v:V}{d:PyData}(h:Rd0 H v d):Sh H v:=by
 cases h with
 | non=>exact .non
 | bl b=>exact .bl b
 | int i=>exact .int i
 | str x=>exact .str x
 | lst _ e _=>exact .row (.inl e)
 | tup _ e _=>exact .row (.inr e)
 | d0 _ e=>exact .dct e
 | d1 _ e=>exact .dct e
def cn:PyData→Option (List PyData)
 | .list xs=>some xs
 | .tuple xs=>some xs
 | _=>none
theorem Rd0.row{H:Hp}{v:V}{d:PyData}{ds:List PyData}(h:Rd0 H v d)(e:cn d=some ds):∃ a xs,v=.ref a∧LT H a xs∧aB H xs ds:=by
 cases h with
 | lst _ e1 r=>cases e; exact⟨_,_,rfl,.inl e1,r⟩
 | tup _ e1 r=>cases e; exact⟨_,_,rfl,.inr e1,r⟩
 | _=>cases e
theorem Rd0.rows{H:Hp}{v:V}{d:PyData}(h:Rd0 H v d):(i0 H v).isSome=(cn d).isSome:=by
 cases h with
 | lst _ e r=>rw [iZ (.inl e)]; rfl
 | tup _ e r=>rw [iZ (.inr e)]; rfl
 | d0 _ e=>rw [gs e]; rfl
 | d1 _ e=>rw [gs e]; rfl
 | _=>rfl
theorem Rd0.same{H H':Hp}{v:V}{d:PyData}(h:Rd0 H v d)(s:al H H'):Rd0 H' v d:=h.mono (fun _ z=>z) fun a o _ e=>s a o e
theorem aB.same{H H':Hp}{v:List V}{d:List PyData}(h:aB H v d)(s:al H H'):aB H' v d:=RdB.mono (fun _ z=>z) (fun a o _ e=>s a o e) h
theorem aB.length{H:Hp}:∀ {xs:List V} {ds:List PyData},aB H xs ds→xs.length=ds.length
 | _,_,.nil=>rfl
 | _,_,.cons _ r=>congrArg Nat.succ (aB.length r)
def cS:PyData→Option (Str×List PyData)
 | .list (.str w::xs)=>some (w,xs)
 | .tuple (.str w::xs)=>some (w,xs)
 | _=>none
theorem bX{K:WB}{H:Hp}{a:Addr}{xs:List V}{i:Int}{v:V}{Q:VK}(h:SqL K H a xs∨SqT K H a xs)(hv:atI xs i=some v)(q:Q v H):rIx K (.ref a) (.int i) H Q:=
 h.elim (fun h=>.inl ⟨a,xs,i,v,rfl,rfl,h,hv,q⟩) fun h=>.inr (.inl ⟨a,xs,i,v,rfl,rfl,h,hv,q⟩)
section
inductive spIsListO(vs:List V)(H:Hp)(Q:VK)(e3_:XK):Prop | mk (v) (_:vs=[v]) (_:Sh H v) (_:∀ H',al H H'→Q (.bl (i0 H v).isSome) H')
theorem mf(F:ah K mg "is_list" fu lB0)(Z:Bl mg):bc P w K mg base "is_list" 1 lB0 spIsListO:=by
 have SC:=zbh
 refine F.mkE (k:=0) zbh (fun vs H Q E h=>?_) (fun f cdv A outer s H vs Q E hr h=>?_)
 ·obtain⟨v,rfl,_⟩:=h
  rfl
 ·obtain⟨v,rfl,hv,q⟩:=h
  refine'⟨_,?dv,?_⟩
  case dv=>(have:=aj 1 30 11 43; walk_at "S1")
  refine⟨_,rfl,by show 2≤sizeLine; decide,fun t ht=>?_⟩
  have st:=ac ht (.tup [.ty "list",.ty "tuple"])
  obtain⟨ty,hty,hk⟩:=(hv.same st).isi2 (K:=K)
  rw [hv.rows st] at hk
  exact⟨_,t,ty,_,rfl,aa,hty,hk,q _ st⟩
abbrev d8:Stmt:=top 27
theorem zb8:ai lC4 lC4 (ag d8):=by walk_at "F"
inductive spManyE(N:Addr)(vs:List V)(H:Hp)(Q:VK)(E:XK):Prop | mk (l:Addr) (xs:List V) (n:Nat) (_:vs=[.ref l,.int n]) (_:H l=some (.lst xs)) (_:(xs.length=n→Q .non H)) (_:(xs.length≠n→∀ H',al H H'→E (.ref N) none H'))
theorem tJ{N:Addr}(F:ah K mg "check_many" d8 lC4)(Z:Bl mg)(O_NoSaying:cX K mg "NoSaying" N):bc P w K mg base "check_many" 1 lC4 (spManyE N):=by
 have SC:=zb8
 refine F.mkE (k:=0) zb8 (fun vs H Q E h=>?_) (fun f cdv A outer s H vs Q E hr h=>?_)
 ·obtain⟨l,xs,n,rfl,_⟩:=h
  rfl
 ·obtain⟨l,xs,n,rfl,hl,q,no⟩:=h
  refine'⟨_,?dv,?_⟩
  case dv=>(walk_at "S1")
  refine⟨_,rfl,l,_,rfl,.inl (SqL.of hl),_,rfl,rfl,_,rfl,?_⟩
  by_cases hn:xs.length=n
  ·exact ifF (by rw [hn]; simp) (q hn)
  ·exact ifT (by simp; omega) ⟨by show 1≤sizeLine; decide,no hn _ (al.refl _)⟩
abbrev cr:Stmt:=top 26
theorem zb9:ai ["thing","room","word","things"] lD2 (ag cr):=by walk_at "F"
inductive spWordE(N:Addr)(vs:List V)(H:Hp)(Q:VK)(E:XK):Prop | mk (v:V) (d:PyData) (r:Nat) (_:vs=[v,.int r]) (_:Rd0 H v d) (_:(∀ x ds,r≠0→cS d=some (x,ds)→∀ p l xs H',H' p=some (.tup [.str x,.ref l])→H' l=some (.lst xs)→aB H' xs ds→al H H'→Q (.ref p) H')) (_:(r=0∨cS d=none→∀ H',al H H'→E (.ref N) none H'))
theorem sT{N:Addr}(F:ah K mg "word_and_things" cr lD2)(Z:Bl mg)(O_NoSaying:cX K mg "NoSaying" N)(D_is_list:bc P w K mg base "is_list" 1 lB0 spIsListO):bc P w K mg base "word_and_things" 2 lD2 (spWordE N):=by
 have SC:=zb9
 refine F.mkE (k:=1) zb9 (fun vs H Q E h=>?_) (fun f cdv A outer s H vs Q E hr h=>?_)
 ·obtain⟨v,d,r,rfl,_⟩:=h
  rfl
 ·obtain⟨v,d,r,rfl,hv,q,no⟩:=h
  refine'⟨_,?dv,?_⟩
  case dv=>(have:=aj 2 100 66 91; have:=aj 27 100 77 85; walk_at "S2")
  refine⟨_,rfl,rfl,_,rfl,?_⟩
  by_cases r0:r=0
  ·exact ifT (by simp [r0]) (ifT rfl ⟨by show 1≤sizeLine; decide,no (.inl r0) _ (al.refl _)⟩)
  refine ifF (by simp; omega) ⟨_,rfl,v,rfl,hv.sh,fun H1 s1=>⟨_,rfl,?_⟩⟩
  rw [hv.rows]
  cases hk:cn d with
  | none=>
   have hw:cS d=none:=by cases d <;> first | rfl | cases hk
   exact ifT rfl (ifT rfl ⟨by show 1≤sizeLine; decide,no (.inr hw) _ s1⟩)
  | some ds=>
   obtain⟨a,xs,rfl,hL,hr⟩:=hv.row hk
   refine ifF (by simp) ⟨_,rfl,a,_,rfl,(hL.same s1).sq,rfl,_,rfl,?_⟩
   cases hr with
   | nil=>
    have hw:cS d=none:=by cases d <;> first | rfl | (cases hk; rfl) | cases hk
    exact ifT rfl (ifT rfl ⟨by show 1≤sizeLine; decide,no (.inr hw) _ s1⟩)
   | @cons x xs' d0 ds' h0 hr'=>
    obtain⟨ty,hty,hkt⟩:=(Rd0.sh (Rd0.same h0 s1)).isS (K:=K)
    refine ifF (by simp; omega) ⟨_,rfl,bX (hL.same s1).sq (aH (x:=x) (by decide) rfl) ⟨_,_,_,rfl,hty,hkt,_,rfl,?_⟩⟩
    by_cases hx:∃ z,d0=.str z
    ·obtain⟨z,rfl⟩:=hx
     cases h0
     have hw:cS d=some (z,ds'):=by cases d <;> first | (cases hk; rfl) | cases hk
     refine ifF (show ¬ (!dE (V.str z))=true from YN) ?_
     refine⟨_,rfl,a,_,_,rfl,(hL.same s1).sq,fun l hl=>⟨_,_,rfl,_,_,rfl,rfl,?_⟩⟩
     refine⟨_,rfl,_,rfl,by show 2≤sizeLine; decide,fun p hp=>?_⟩
     have s2:=s1.trans (ac hl (.lst xs'))
     have s3:=s2.trans (ac hp (.tup [.str z,.ref l]))
     exact q z ds' r0 hw p l xs' _ aa (ac hp _ _ _ aa) (aB.same hr' s3) s3
    ·have hw:cS d=none:=by
      cases d <;> first | rfl | (cases hk; cases d0 <;> first | rfl | exact absurd ⟨_,rfl⟩ hx)
     have hs:dE x=false:=by cases h0 <;> first | rfl | exact absurd ⟨_,rfl⟩ hx
     rw [hs]
     exact ifT rfl ⟨by show 1≤sizeLine; decide,no (.inr hw) _ s1⟩
end
theorem zf:¬ (("tie_places":Str)="known_kinds"):=by decide +kernel
theorem zh:¬ (("function_places":Str)="known_kinds"):=by decide +kernel
theorem zg:¬ (("function_places":Str)="tie_places"):=by decide +kernel
theorem zk:¬ (("function_kinds":Str)="known_kinds"):=by decide +kernel
theorem zi:¬ (("function_kinds":Str)="tie_places"):=by decide +kernel
theorem zj:¬ (("function_kinds":Str)="function_places"):=by decide +kernel
def fa1(a:Addr):List (Str×V):=aW "known_kinds" (.ref a) []
def fa2(a b:Addr):List (Str×V):=aW "tie_places" (.ref b) (fa1 a)
def fa3(a b c:Addr):List (Str×V):=aW "function_places" (.ref c) (fa2 a b)
def fa4(a b c d:Addr):List (Str×V):=aW "function_kinds" (.ref d) (fa3 a b c)
theorem zx(a b c d:Addr):(fa4 a b c d).lookup ("known_kinds":Str)=some (.ref a):=by
 unfold fa4 fa3 fa2 fa1
 rw [ap,if_neg (fun z=>zk z.symm),ap,if_neg (fun z=>zh z.symm),ap,if_neg (fun z=>zf z.symm),ap,if_pos rfl]
theorem uG(a b c d:Addr):(fa4 a b c d).lookup ("tie_places":Str)=some (.ref b):=by
 unfold fa4 fa3 fa2
 rw [ap,if_neg (fun z=>zi z.symm),ap,if_neg (fun z=>zg z.symm),ap,if_pos rfl]
theorem uF(a b c d:Addr):(fa4 a b c d).lookup ("function_places":Str)=some (.ref c):=by
 unfold fa4 fa3
 rw [ap,if_neg (fun z=>zj z.symm),ap,if_pos rfl]
theorem zw(a b c d:Addr):(fa4 a b c d).lookup ("function_kinds":Str)=some (.ref d):=by
 unfold fa4
 rw [ap,if_pos rfl]
structure ClT(K:WB)(C:Addr):Prop where
 cl:Cls K C
 n1:ci K C "known_kinds"
 n2:ci K C "tie_places"
 n3:ci K C "function_places"
 n4:ci K C "function_kinds"
def lp(C:Addr)(H:Hp)(x:Addr)(ks:List Str)(ts:List aq)(fs:List ao):Prop:=
 ∃ (dx a b c d:Addr) (tp fp fk:List (Key×V)),H x=some (.ins C dx (fa4 a b c d))∧H a=some (.lst (ks.map V.str))∧H b=some (.dK tp)∧H c=some (.dK fp)∧H d=some (.dK fk)∧
  (∀ z ps,eM ts z=some ps→∃ q,bj tp (.inr z)=some (.ref q)∧H q=some (.tup (ps.map V.str)))∧(∀ z,eM ts z=none→bj tp (.inr z)=none)∧
  (∀ z ps k,fJ fs z=some (ps,k)→∃ q,bj fp (.inr z)=some (.ref q)∧H q=some (.tup (ps.map V.str))∧bj fk (.inr z)=some (.str k))∧(∀ z,fJ fs z=none→bj fp (.inr z)=none)
theorem lp.same{C:Addr}{H H':Hp}{x:Addr}{ks:List Str}{ts:List aq}{fs:List ao}(h:lp C H x ks ts fs)(s:al H H'):lp C H' x ks ts fs:=by
 obtain⟨dx,a,b,c,d,tp,fp,fk,h1,h2,h3,h4,h5,h6,h7,h8,h9⟩:=h
 refine⟨dx,a,b,c,d,tp,fp,fk,s _ _ h1,s _ _ h2,s _ _ h3,s _ _ h4,s _ _ h5,fun z ps e=>?_,h7,fun z ps k e=>?_,h9⟩
 ·obtain⟨q,e1,e2⟩:=h6 z ps e; exact⟨q,e1,s _ _ e2⟩
 ·obtain⟨q,e1,e2,e3⟩:=h8 z ps k e; exact⟨q,e1,s _ _ e2,e3⟩
theorem ly{fs:List ao}{S:Sco}{d:PyData}{x:Str}{ds:List PyData}(h:cS d=some (x,ds)):aV fs S d=match fJ fs x with
  | some (ps,k)=>if bI fs S ds ps then some k else none
  | none=>none:=by
 cases d with
 | list xs=>
  match xs,h with
  | .str w::r,h=>cases h; rfl
 | tuple xs=>
  match xs,h with
  | .str w::r,h=>cases h; rfl
 | _=>cases h
theorem fo{d:PyData}{x:Str}{ds:List PyData}(h:cS d=some (x,ds)):d.depth=YQ ds+1:=by
 cases d with
 | list xs=>
  match xs,h with
  | .str w::r,h=>cases h; simp [Y6,YQ]
 | tuple xs=>
  match xs,h with
  | .str w::r,h=>cases h; simp [Y6,YQ]
 | _=>cases h
theorem oS{d:PyData}{x:Str}{ds:List PyData}(h:cS d=some (x,ds)):tupD d=.tuple (.str x::be ds):=by
 cases d with
 | list xs=>
  match xs,h with
  | .str w::r,h=>cases h; rfl
 | tuple xs=>
  match xs,h with
  | .str w::r,h=>cases h; rfl
 | _=>cases h
theorem iK{fs:List ao}{S:Sco}{d:PyData}(h:cS d=none)(hs:∀ x,d≠.str x):aV fs S d=none:=by
 cases d with
 | str x=>exact absurd rfl (hs x)
 | list xs=>
  match xs,h with
  | [],_=>rfl
  | .str w::r,h=>cases h
  | .none::r,h=>rfl
  | .bool _::r,h=>rfl
  | .int _::r,h=>rfl
  | .list _::r,h=>rfl
  | .tuple _::r,h=>rfl
  | .dict _::r,h=>rfl
 | tuple xs=>
  match xs,h with
  | [],_=>rfl
  | .str w::r,h=>cases h
  | .none::r,h=>rfl
  | .bool _::r,h=>rfl
  | .int _::r,h=>rfl
  | .list _::r,h=>rfl
  | .tuple _::r,h=>rfl
  | .dict _::r,h=>rfl
 | _=>rfl
theorem row_iff{fs:List ao}{S:Sco}:∀ {ds:List PyData} {ps:List Str},bI fs S ds ps=true↔ds.length=ps.length∧∀ (i:Nat) (d:PyData) (p:Str),ds[i]? = some d→ps[i]? = some p→aV fs S d=some p
 | [],[]=>⟨fun _=>⟨rfl,fun i d p e=>by cases e⟩,fun _=>rfl⟩
 | [],_::_=>⟨fun h=>(by cases h),fun h=>(by cases h.1)⟩
 | _::_,[]=>⟨fun h=>(by cases h),fun h=>(by cases h.1)⟩
 | d::ds,p::ps=>by
  show (aV fs S d==some p&&bI fs S ds ps)=true↔_
  rw [YW,row_iff (ds:=ds) (ps:=ps),beq_iff_eq]
  constructor
  ·rintro⟨h1,h2,h3⟩
   refine⟨congrArg Nat.succ h2,fun i d' p' a b=>?_⟩
   cases i with
   | zero=>cases a; cases b; exact h1
   | succ i=>exact h3 i d' p' a b
  ·rintro⟨h2,h3⟩
   exact⟨h3 0 d p rfl rfl,Nat.succ.inj h2,fun i d' p' a b=>h3 (i+1) d' p' a b⟩
theorem pc{fs:List ao}{S:Sco}{ds:List PyData}{ps:List Str}{i:Nat}{d:PyData}{p:Str}(a:ds[i]? = some d)(b:ps[i]? = some p)(h:aV fs S d≠some p):bI fs S ds ps=false:=by
 cases e:bI fs S ds ps with
 | false=>rfl
 | true=>exact absurd ((row_iff.mp e).2 i d p a b) h
theorem pb{fs:List ao}{S:Sco}{ds:List PyData}{ps:List Str}(h:ds.length≠ps.length):bI fs S ds ps=false:=by
 cases e:bI fs S ds ps with
 | false=>rfl
 | true=>exact absurd (row_iff.mp e).1 h
theorem aB.get{H:Hp}:∀ {xs:List V} {ds:List PyData} {i:Nat} {x:V},aB H xs ds→xs[i]? = some x→∃ d,ds[i]? = some d∧Rd0 H x d
 | _,_,0,_,.cons h _,e=>by cases e; exact⟨_,rfl,h⟩
 | _,_,i+1,_,.cons _ r,e=>aB.get (i:=i) r e
 | _,_,_,_,.nil,e=>by cases e
theorem aB.snoc{H:Hp}:∀ {xs:List V} {ds:List PyData} {x:V} {d:PyData},aB H xs ds→Rd0 H x d→aB H (xs++[x]) (ds++[d])
 | _,_,_,_,.nil,h=>.cons h .nil
 | _,_,_,_,.cons a r,h=>.cons a (aB.snoc r h)
theorem cH:∀ {ds:List PyData} {i:Nat} {d:PyData},ds[i]? = some d→d.depth≤YQ ds
 | d::ds,0,_,e=>by cases e; simp only [YQ]; omega
 | _::ds,i+1,d,e=>by have:=cH (ds:=ds) (i:=i) e; simp only [YQ]; omega
mutual
theorem nN{H:Hp}{D:Addr}{us:List V}(hD:H D=some (.lst us)):∀ {v:V} {e:PyData},Rd0 H v e→∀ d,e=tupD d→RdD (fun a=>a≠D) H v e
 | _,_,.non,_,_=>.non
 | _,_,.bl b,_,_=>.bl b
 | _,_,.int i,_,_=>.int i
 | _,_,.str x,_,_=>.str x
 | _,_,.lst _ e z,d,q=>by cases d <;> cases q
 | _,_,.tup (ds:=es) _ e z,d,q=>by
  have : ∃ ds,es=be ds:=by
   cases d with
   | list xs=>exact⟨xs,PyData.tuple.inj q⟩
   | tuple xs=>exact⟨xs,PyData.tuple.inj q⟩
   | _=>cases q
  obtain⟨ds,h⟩:=this
  exact .tup (fun w=>by rw [w,hD] at e; cases e) e (ph hD z ds h)
 | _,_,.d0 _ e,_,_=>.d0 (fun w=>by rw [w,hD] at e; cases e) e
 | _,_,.d1 _ e,_,_=>.d1 (fun w=>by rw [w,hD] at e; cases e) e
theorem ph{H:Hp}{D:Addr}{us:List V}(hD:H D=some (.lst us)):∀ {xs:List V} {es:List PyData},aB H xs es→∀ ds,es=be ds→RdB (fun a=>a≠D) H xs es
 | _,_,.nil,_,_=>.nil
 | _,_,.cons a r,[],q=>by cases q
 | _,_,.cons a r,d::ds,q=>by
  have h:=List.cons.inj (show _::_=tupD d::be ds from q)
  exact .cons (nN hD a d h.1) (ph hD r ds h.2)
end
theorem RdB.snoc{R:Addr→Prop}{H:Hp}:∀ {xs:List V} {ds:List PyData} {x:V} {d:PyData},RdB R H xs ds→RdD R H x d→RdB R H (xs++[x]) (ds++[d])
 | _,_,_,_,.nil,h=>.cons h .nil
 | _,_,_,_,.cons a r,h=>.cons a (RdB.snoc r h)
section
abbrev cy:Stmt:=top 24
theorem zca:ai ["table","thing","scope","room","name","things","row"] lA4 (ag cy):=by walk_at "F"
abbrev b9:Stmt:=top 25
theorem zcb:ai ["table","things","places","scope","room","row","thing","place","term","kind"] lA7 (ag b9):=by walk_at "F"
inductive spTmE(C N:Addr)(n:Nat)(vs:List V)(H:Hp)(Q:VK)(E:XK):Prop | mk (x sc:Addr) (v:V) (r:Nat) (ks:List Str) (ts:List aq) (fs:List ao) (S:Sco) (d:PyData) (_:vs=[.ref x,v,.ref sc,.int r]) (_:lp C H x ks ts fs) (_:(∀ f∈fs,f.ps.length≤2)) (_:lq H sc S) (_:Rd0 H v d) (_:d.depth≤n) (_:d.depth≤r) (_:(∀ k,aV fs S d=some k→∀ p u H',H' p=some (.tup [u,.str k])→Rd0 H' u (tupD d)→al H H'→Q (.ref p) H')) (_:(aV fs S d=none→∀ H',al H H'→E (.ref N) none H'))
inductive spRowE(C N:Addr)(n:Nat)(vs:List V)(H:Hp)(Q:VK)(E:XK):Prop | mk (x sc l pl:Addr) (r:Nat) (ks:List Str) (ts:List aq) (fs:List ao) (S:Sco) (xs:List V) (ds:List PyData) (ps:List Str) (_:vs=[.ref x,.ref l,.ref pl,.ref sc,.int r]) (_:lp C H x ks ts fs) (_:(∀ f∈fs,f.ps.length≤2)) (_:lq H sc S) (_:H l=some (.lst xs)) (_:aB H xs ds) (_:H pl=some (.tup (ps.map V.str))) (_:ps.length≤2) (_:YQ ds≤n) (_:YQ ds≤r) (_:(bI fs S ds ps=true→∀ q us H',H q=none→H' q=some (.lst us)→aB H' us (be ds)→al H H'→Q (.ref q) H')) (_:(bI fs S ds ps=false→∀ H',al H H'→E (.ref N) none H'))
theorem i9{C N:Addr}(F:ah K mg "checked_row" b9 lA7)(Z:Bl mg)(n_zip:mg "zip"=none)(O_NoSaying:cX K mg "NoSaying" N)(D_check_many:bc P w K mg base "check_many" 1 lC4 (spManyE N))(n:Nat)
  (D_checked_term:bc P w K mg base "checked_term" (2*n+3) lA4 (spTmE C N n)):bc P w K mg base "checked_row" (2*n+4) lA7 (spRowE C N n):=by
 have SC:=zcb
 refine F.mkE (k:=2*n+3) zcb (fun vs H Q E h=>?_) (fun f cdv A outer s H vs Q E hr h=>?_)
 ·obtain⟨x,sc,l,pl,r,ks,ts,fs,S,xs,ds,ps,rfl,_⟩:=h
  rfl
 ·obtain⟨x,sc,l,pl,r,ks,ts,fs,S,xs,ds,ps,rfl,hT,hp2,hS,hl,hm,hp,h2,hn,hrr,q,no⟩:=h
  refine'⟨_,?dv,?_⟩
  case dv=>(walk_at "S2")
  have len1:=aB.length hm
  refine⟨_,rfl,_,rfl,pl,_,rfl,.inr (SqT.of hp),l,xs,ps.length,by rw [YC]; rfl,hl,fun lenE=>?_,fun lenE H' s'=>no (pb (by omega)) H' s'⟩
  have lenX:xs.length=(ps.map V.str).length:=by rw [YC]; omega
  refine⟨by show 0≤sizeLine; decide,fun D hD=>?_⟩
  have s1:=ac hD (.lst [])
  refine⟨_,rfl,_,rfl,true,false,l,pl,xs,_,rfl,SqL.of (s1 _ _ hl),SqT.of (s1 _ _ hp),?_⟩
  refine uB (K:=K) (b1:=true) (b2:=false) (a:=l) (b:=pl) (xs:=xs) (ys:=ps.map V.str) lenX (fun i σ H2=>∃ (us:List V) (v6 v7 v8 v9:Option V),σ=[some (.ref x),some (.ref l),some (.ref pl),some (.ref sc),some (.int r),some (.ref D),v6,v7,v8,v9]∧al H H2∧H2 D=some (.lst us)∧us.length=i∧RdB (fun a=>a≠D) H2 us (be (ds.take i))∧∀ j d p,j<i→ds[j]? = some d→ps[j]? = some p→aV fs S d=some p)
   ⟨[],none,none,none,none,rfl,s1,aa,rfl,.nil,fun j d p z=>by omega⟩ (by rintro i σ H2 _ ⟨_,_,_,_,_,_,y,_⟩;exact ⟨SqL.of (y _ _ hl),SqT.of (y _ _ hp)⟩) ?_ ?_
  ·rintro i y z σ H2 p hy hz hpn ⟨us,v6,v7,v8,v9,rfl,s2,eD,ul,hu,hk⟩
   rw [YZ] at hz
   obtain⟨k,hk',rfl⟩:=YS.mp hz
   obtain⟨d,hd',hmt⟩:=aB.get hm hy
   have dt:=cH hd'
   have s3:=ac hpn (.tup [y,.str k])
   have s03:=s2.trans s3
   refine⟨p,_,rfl,SqT.of aa,rfl,_,_,rfl,_,_,rfl,rfl,?_⟩
   refine⟨_,rfl,_,rfl,_,rfl,_,rfl,x,sc,y,r,ks,ts,fs,S,d,rfl,hT.same s03,hp2,hS.same s03,Rd0.same hmt s03,by omega,by omega,fun k2 ek p2 u H3 e3 tu s4=>?_,fun ek H' s'=>no (pc hd' hk' (by rw [ek]; simp)) H' (s03.trans s')⟩
   refine⟨p2,_,rfl,SqT.of e3,rfl,_,_,rfl,_,_,rfl,rfl,?_⟩
   refine⟨_,rfl,_,rfl,rfl,_,rfl,?_⟩
   by_cases hkk:k2=k
   rotate_left
   ·exact ifT (by simp; exact hkk) ⟨by show 1≤sizeLine; decide,no (pc hd' hk' (by rw [ek]; simp; exact hkk)) _ (s03.trans s4)⟩
   subst hkk
   refine ifF (by simp) ?_
   have s23:=s3.trans s4
   have eD3:=s23 _ _ eD
   have il:i<2:=by have:=(YV.mp hk').1; omega
   refine⟨_,rfl,.inl ⟨rfl,_,SqL.of eD3⟩,_,rfl,D,us,_,rfl,rfl,eD3,Xz (show us.length≤2 by omega) (by decide),us++[u],_,_,_,_,rfl,fun c o e=>by rw [ae (af e hD)]; exact s23 c o (s2 c o e),aa,by rw [YY,ul]; rfl,?_,fun j d' p' hj a b=>?_⟩
   ·rw [Y7,hd',bt,Y1,← bt]
    refine RdB.snoc (RdB.mono (fun _ z=>z) (fun c o z e=>by rw [ae z]; exact s23 c o e) hu) (RdD.mono (fun _ z=>z) (fun c o z e=>by rw [ae z]; exact e) (nN eD3 tu d rfl))
   ·by_cases hji:j<i
    ·exact hk j d' p' hji a b
    ·obtain rfl:j=i:=by omega
     rw [a] at hd'
     rw [b] at hk'
     cases hd'
     cases hk'
     exact ek
  ·rintro σ H2 ⟨us,v6,v7,v8,v9,rfl,s2,eD,ul,hu,hk⟩
   rw [len1,Y8] at hu
   exact⟨_,rfl,q (row_iff.mpr ⟨by omega,fun i d p a b=>hk i d p (by have:=(YV.mp a).1; omega) a b⟩) D us H2 hD eD (RdB.mono (fun _ _=>trivial) (fun _ _ _ e=>e) hu) s2⟩
def kz(C N:Addr):Nat→Sp
 | 0=>fun _ _ _ _=>False
 | n+1=>spRowE C N n
theorem nH{C N:Addr}{m:Nat}{vs:List V}{H:Hp}{Q:VK}{E:XK}(h:spRowE C N m vs H Q E):kz C N (m+1) vs H Q E:=h
theorem tG{C N:Addr}(F:ah K mg "checked_row" b9 lA7):bc P w K mg base "checked_row" 2 lA7 (kz C N 0):=
 F.mkE (k:=1) zcb (fun vs H Q E h=>False.elim h) fun f cdv A outer s H vs Q E hr h=>False.elim h
theorem ir{C N:Addr}(F:ah K mg "checked_term" cy lA4)(Z:Bl mg)(T:ClT K C)(O_NoSaying:cX K mg "NoSaying" N)(D_word_and_things:bc P w K mg base "word_and_things" 2 lD2 (spWordE N))(n:Nat)
  (D_checked_row:bc P w K mg base "checked_row" (2*n+2) lA7 (kz C N n)):bc P w K mg base "checked_term" (2*n+3) lA4 (spTmE C N n):=by
 have SC:=zca
 refine F.mkE (k:=2*n+2) zca (fun vs H Q E h=>?_) (fun f cdv A outer s H vs Q E hr h=>?_)
 ·obtain⟨x,sc,v,r,ks,ts,fs,S,d,rfl,_⟩:=h
  rfl
 ·obtain⟨x,sc,v,r,ks,ts,fs,S,d,rfl,hT,hp2,hS,hv,hn,hrr,q,no⟩:=h
  refine'⟨_,?dv,?_⟩
  case dv=>(have:=aj 2 81 7 29; have:=aj 17 88 37 64; have:=aj 17 89 33 59; have:=aj 17 84 23 35; have:=aj 25 89 18 30; have:=aj 28 86 7 40; have:=aj 28 82 11 29; walk_at "S2")
  obtain⟨ty,hty,hk⟩:=(Rd0.sh hv).isS (K:=K)
  by_cases hx:∃ z,d=.str z
  ·obtain⟨x0,rfl⟩:=hx
   cases hv
   obtain⟨kvs,e1,_,e2⟩:=id hS
   have hg:eA H sc (.str x0) (bj kvs (.inr x0)):=eA.k (k:=.inr x0) e1
   rw [e2] at hg
   refine⟨_,rfl,_,ty,_,rfl,hty,hk,_,rfl,ifT rfl ?_⟩
   refine⟨_,rfl,_,rfl,sc,_,rfl,hg,_,rfl,?_⟩
   cases hs:S x0 with
   | none=>exact ifT rfl ⟨by show 1≤sizeLine; decide,no hs _ (al.refl _)⟩
   | some k=>
    rw [hs] at hg
    refine dz ?_
    exact⟨_,rfl,_,rfl,_,rfl,sc,_,rfl,hg,by show 2≤sizeLine; decide,fun p hp=>q k hs p _ _ aa (.str _) (ac hp _)⟩
  ·have hs:∀ z,d≠.str z:=fun z e=>hx ⟨z,e⟩
   have hst:dE v=false:=by cases hv <;> first | rfl | exact absurd rfl (hs _)
   rw [hst] at hk
   refine⟨_,rfl,_,ty,false,rfl,hty,hk,false,rfl,dz ?_⟩
   refine⟨_,rfl,_,rfl,v,d,r,rfl,hv,fun w0 ds r0 hw p l xs H1 e1 e2 m1 s1=>?_,fun hno H' s'=>?_⟩
   rotate_left
   ·rcases hno with z | z
    ·cases hw:cS d with
     | none=>exact no (iK hw hs) H' s'
     | some y=>have:=fo (x:=y.1) (ds:=y.2) hw; omega
    ·exact no (iK z hs) H' s'
   have hdp:=fo hw
   have hkd:=ly (fs:=fs) (S:=S) hw
   have htd:=oS hw
   obtain⟨m,rfl⟩:∃ m,n=m+1:=⟨n-1,by omega⟩
   obtain⟨r,rfl⟩:∃ r',r=r'+1:=⟨r-1,by omega⟩
   refine⟨p,_,rfl,SqT.of e1,rfl,_,_,rfl,_,_,rfl,rfl,?_⟩
   have hT1:=hT.same s1
   obtain⟨dx,ka,tb,fb,kb,tp,fp,fk,h1,h2,h3,h4,h5,h6,h7,h8,h9⟩:=id hT1
   have hg:∀ H',al H1 H'→eA H' fb (.str w0) (bj fp (.inr w0)):=fun H' s=>eA.k (k:=.inr w0) (s _ _ h4)
   cases hf:fJ fs w0 with
   | none=>
    rw [hf] at hkd
    have hg1:=hg H1 (al.refl _)
    rw [h9 w0 hf] at hg1
    exact⟨_,rfl,_,rfl,x,C,dx,_,_,rfl,h1,T.cl,T.n3,uF _ _ _ _,fb,_,rfl,hg1,_,rfl,ifT rfl ⟨by show 1≤sizeLine; decide,no hkd _ s1⟩⟩
   | some y=>
    obtain⟨ps,k⟩:=y
    rw [hf] at hkd
    replace hkd:aV fs S d=if bI fs S ds ps then some k else none:=hkd
    obtain⟨pl,g1,g2,g3⟩:=h8 w0 ps k hf
    rw [g1] at hg
    have hgk:∀ H',al H1 H'→eA H' kb (.str w0) (some (.str k)):=fun H' s=>by
     have:=eA.k (k:=.inr w0) (s _ _ h5)
     rw [g3] at this
     exact this
    have pl2:ps.length≤2:=by
     unfold fJ at hf
     obtain⟨t,ht,e⟩:=YS.mp hf
     cases e
     exact hp2 t (X7 ht)
    refine⟨_,rfl,_,rfl,x,C,dx,_,_,rfl,h1,T.cl,T.n3,uF _ _ _ _,fb,_,rfl,hg H1 (al.refl _),_,rfl,dz ?_⟩
    refine⟨_,rfl,_,rfl,_,rfl,x,C,dx,_,_,rfl,h1,T.cl,T.n3,uF _ _ _ _,_,rfl,fb,_,rfl,hg H1 (al.refl _),_,rfl,_,rfl,_,1,rfl,rfl,?_⟩
    unfold fS
    refine nH ?_
    refine⟨x,sc,l,pl,r,ks,ts,fs,S,xs,ds,ps,by rw [Int.natCast_add]; simp,hT1,hp2,hS.same s1,e2,m1,g2,pl2,by omega,by omega,fun hrow q' us H2 hq' e3 tu s2=>?_,fun hrow H' s'=>no (by rw [hkd,hrow]; rfl) H' (s1.trans s')⟩
    rw [hrow] at hkd
    refine⟨_,rfl,by show 1≤sizeLine; decide,fun l1 hl1=>?_⟩
    have s3:=ac hl1 (.lst [.str w0])
    have usl:=aB.length tu
    have ll:=(row_iff.mp hrow).1
    rw [bt,YC] at usl
    refine⟨_,rfl,l1,q',_,_,rfl,rfl,aa,s3 _ _ e3,YE (show 1+us.length≤100 by omega) (by decide),fun L hL=>?_⟩
    refine⟨L,_,rfl,.inl ⟨SqL.of aa,fun tt htt=>?_⟩⟩
    have s4:=ac hL (.lst ([.str w0]++us))
    have s5:=ac htt (.tup ([.str w0]++us))
    have s25:=(s3.trans s4).trans s5
    have s15:=s2.trans s25
    refine⟨_,rfl,x,C,dx,_,_,rfl,s15 _ _ h1,T.cl,T.n4,zw _ _ _ _,_,rfl,kb,_,rfl,hgk _ s15,by show 2≤sizeLine; decide,fun pp hpp=>?_⟩
    have s6:=ac hpp (.tup [.ref tt,.str k])
    refine q k hkd pp (.ref tt) _ aa ?_ (s1.trans (s15.trans s6))
    rw [htd]
    exact .tup trivial (s6 _ _ aa) (.cons (.str _) (aB.same tu (s25.trans s6)))
theorem jN{C N:Addr}(F1:ah K mg "checked_term" cy lA4)(F2:ah K mg "checked_row" b9 lA7)(Z:Bl mg)(T:ClT K C)(n_zip:mg "zip"=none)(O_NoSaying:cX K mg "NoSaying" N)
  (D_word_and_things:bc P w K mg base "word_and_things" 2 lD2 (spWordE N)) (D_check_many:bc P w K mg base "check_many" 1 lC4 (spManyE N)) :
  ∀ n,bc P w K mg base "checked_term" (2*n+3) lA4 (spTmE C N n)∧bc P w K mg base "checked_row" (2*n+4) lA7 (spRowE C N n)
 | 0=>
  have h1:=ir F1 Z T O_NoSaying D_word_and_things 0 (tG F2)
  ⟨h1,i9 F2 Z n_zip O_NoSaying D_check_many 0 h1⟩
 | n+1=>by
  have ih:=jN F1 F2 Z T n_zip O_NoSaying D_word_and_things D_check_many n
  have h1:=ir (C:=C) (N:=N) F1 Z T O_NoSaying D_word_and_things (n+1) (by
   rw [show 2*(n+1)+2=2*n+4 from by omega]
   exact ih.2)
  exact⟨h1,i9 F2 Z n_zip O_NoSaying D_check_many (n+1) h1⟩
end
section
abbrev bC:Stmt:=top 22
theorem zcc:ai ["table","things","scope","room","left","left_kind","right","right_kind"] lC1 (ag bC):=by walk_at "F"
inductive spEqE(C N:Addr)(n:Nat)(vs:List V)(H:Hp)(Q:VK)(E:XK):Prop | mk (x sc l:Addr) (r:Nat) (ks:List Str) (ts:List aq) (fs:List ao) (S:Sco) (xs:List V) (ds:List PyData) (_:vs=[.ref x,.ref l,.ref sc,.int r]) (_:lp C H x ks ts fs) (_:(∀ f∈fs,f.ps.length≤2)) (_:lq H sc S) (_:H l=some (.lst xs)) (_:aB H xs ds) (_:YQ ds≤n) (_:YQ ds≤r) (_:(eqD fs S ds=true→∀ u H',Rd0 H' u (.tuple (.str "="::be ds))→al H H'→Q u H')) (_:(eqD fs S ds=false→∀ H',al H H'→E (.ref N) none H'))
theorem tQ{C N:Addr}(F:ah K mg "checked_equation" bC lC1)(Z:Bl mg)(O_NoSaying:cX K mg "NoSaying" N)(D_check_many:bc P w K mg base "check_many" 1 lC4 (spManyE N))(n:Nat)
  (D_checked_term:bc P w K mg base "checked_term" (2*n+3) lA4 (spTmE C N n)):bc P w K mg base "checked_equation" (2*n+4) lC1 (spEqE C N n):=by
 have SC:=zcc
 refine F.mkE (k:=2*n+3) zcc (fun vs H Q E h=>?_) (fun f cdv A outer s H vs Q E hr h=>?_)
 ·obtain⟨x,sc,l,r,ks,ts,fs,S,xs,ds,rfl,_⟩:=h
  rfl
 ·obtain⟨x,sc,l,r,ks,ts,fs,S,xs,ds,rfl,hT,hp2,hS,hl,hm,hn,hrr,q,no⟩:=h
  refine'⟨_,?dv,?_⟩
  case dv=>(walk_at "S2")
  have len1:=aB.length hm
  refine⟨_,rfl,l,xs,2,rfl,hl,fun lenE=>?_,fun lenE H' s'=>no ?_ H' s'⟩
  rotate_left
  ·match ds,len1 with
   | [],_=>rfl
   | [_],_=>rfl
   | [_,_],z=>exact absurd z lenE
   | _::_::_::_,_=>rfl
  obtain⟨va,vb,rfl⟩:=Few.le2 lenE
  cases hm with
  | @cons _ _ da _ ma m1=>
  cases m1 with
  | @cons _ _ db _ mb m1=>
  cases m1
  have d1:da.depth≤YQ [da,db]:=cH (i:=0) rfl
  have d2:db.depth≤YQ [da,db]:=cH (i:=1) rfl
  have hE:eqD fs S [da,db]=((aV fs S da).isSome&&aV fs S da==aV fs S db):=rfl
  refine⟨_,rfl,_,rfl,l,_,_,_,rfl,rfl,SqL.of hl,rfl,_,rfl,_,rfl,x,sc,va,r,ks,ts,fs,S,da,rfl,hT,hp2,hS,ma,by omega,by omega,fun k1 ek1 p1 ua H1 e1 t1 s1=>?_,fun ek H' s'=>no (by rw [hE,ek]; rfl) H' s'⟩
  refine⟨p1,_,rfl,SqT.of e1,rfl,_,_,rfl,_,_,rfl,rfl,?_⟩
  refine⟨_,rfl,_,rfl,l,_,_,_,rfl,rfl,SqL.of (s1 _ _ hl),rfl,_,rfl,_,rfl,x,sc,vb,r,ks,ts,fs,S,db,rfl,hT.same s1,hp2,hS.same s1,Rd0.same mb s1,by omega,by omega,fun k2 ek2 p2 ub H2 e2 t2 s2=>?_,fun ek H' s'=>no (by rw [hE,ek1,ek]; rfl) H' (s1.trans s')⟩
  refine⟨p2,_,rfl,SqT.of e2,rfl,_,_,rfl,_,_,rfl,rfl,?_⟩
  refine⟨_,rfl,_,rfl,rfl,_,rfl,?_⟩
  by_cases hk:k1=k2
  rotate_left
  ·exact ifT (by simp; exact hk) ⟨by show 1≤sizeLine; decide,no (by rw [hE,ek1,ek2]; simp; exact hk) _ (s1.trans s2)⟩
  subst hk
  refine ifF (by simp) ?_
  refine⟨_,rfl,_,rfl,by show 3≤sizeLine; decide,fun p3 hp3=>?_⟩
  have s3:=ac hp3 (.tup [.str "=",ua,ub])
  exact q (by rw [hE,ek1,ek2]; simp) _ _ (.tup trivial aa (.cons (.str _) (.cons (Rd0.same t1 (s2.trans s3)) (.cons (Rd0.same t2 s3) .nil)))) (s1.trans (s2.trans s3))
end
def nmV:V→Bool
 | .str z=>nmB z
 | _=>false
section
inductive spNameE(vs:List V)(H:Hp)(Q:VK)(e3_:XK):Prop | mk (v) (_:vs=[v]) (_:Sh H v) (_:(∀ z,v=.str z→z.length≤100000)) (_:∀ H',al H H'→Q (.bl (nmV v)) H')
theorem tH(F:ah K mg "is_name" fq lB0)(Z:Bl mg)(G:Gs K mg):bc P w K mg base "is_name" 1 lB0 spNameE:=by
 have SC:=zbi
 obtain⟨_,g_LETTERS,r_LETTERS⟩:=G.letters
 obtain⟨_,g_LONGEST_NAME,r_LONGEST_NAME⟩:=G.longest
 refine F.mkE (k:=0) zbi (fun vs H Q E h=>?_) (fun f cdv A outer s H vs Q E hr h=>?_)
 ·obtain⟨v,rfl,_⟩:=h
  rfl
 ·obtain⟨v,rfl,hv,hlen,q⟩:=h
  refine'⟨_,?dv,?_⟩
  case dv=>(have:=aj 2 32 11 33; have:=aj 3 34 16 31; have:=aj 4 32 46 56; have:=bB 34 15 50 1 ["sign","thing"]; have:=aj 5 34 44 49; have:=aj 6 34 16 31; walk_at "S2")
  obtain⟨ty,hty,hk⟩:=hv.isS (K:=K)
  refine⟨_,rfl,_,_,_,rfl,hty,hk,?_⟩
  by_cases hs:∃ z,v=.str z
  ·obtain⟨z,rfl⟩:=hs
   have hz:=iD z
   have hcs:z.cps.size=z.cps.toList.length:=by simp
   have hB:nmV (.str z)=(decide (1≤z.cps.toList.length)&&decide (z.cps.toList.length≤12)&&z.cps.toList.all iz):=rfl
   refine⟨true,rfl,dz ?_⟩
   refine⟨_,rfl,_,rfl,YE (hlen z rfl) (by decide),_,_,rfl,rfl,_,rfl,?_⟩
   by_cases h1:1≤z.cps.toList.length
   ·refine ifT (decide_eq_true (by omega)) ?_
    refine⟨_,_,rfl,rfl,_,rfl,?_⟩
    by_cases h2:z.cps.toList.length≤12
    ·rw [decide_eq_true h1,decide_eq_true h2] at hB
     refine ifF (by simp; omega) ?_
     refine⟨_,rfl,z,rfl,?_⟩
     intro cl C ex s0 H0
     refine bi z.cps.size (fun i ys H1=>ys=((z.cps.toList.take i).map iz).map V.bl∧H1=H) (fun i x=>∃ c,z.cps[i]? = some c∧x=.str ⟨#[c]⟩) ⟨rfl,rfl⟩ (YE (show z.cps.size≤12 by omega) (by decide)) (fun i ys H1 hi _ _=>oq hi) (fun ys H1 _ _=>iT) ?_ ?_
     ·rintro i x ys H1 hi ⟨c,hc,rfl⟩ hy ⟨rfl,rfl⟩
      have hm:z.cps.toList[i]? = some c:=by simpa using hc
      refine⟨_,rfl,_,_,rfl,rfl,?_,rfl⟩
      rw [Y7,hm]
      show _=List.map V.bl (List.map iz (List.take i z.cps.toList++[c]))
      rw [Y1,Y1]
      rfl
     ·rintro ys H1 hy ⟨rfl,rfl⟩ D hD
      refine⟨D,(z.cps.toList.take z.cps.size).map iz,rfl,SqL.of aa,?_⟩
      have:=q _ (ac hD (.lst (((z.cps.toList.take z.cps.size).map iz).map V.bl)))
      rw [hB] at this
      rw [XS (by omega)] at this ⊢
      rw [List.all_map]
      exact this
    ·rw [decide_eq_false h2,Bool.and_false,XZ] at hB
     have:=q _ (al.refl _)
     rw [hB] at this
     exact ifT (by simp; omega) this
   ·rw [decide_eq_false h1,XZ,XZ] at hB
    have:=q _ (al.refl _)
    rw [hB] at this
    refine ifF (by simp; omega) ?_
    exact⟨false,rfl,wq this⟩
  ·have hst:dE v=false:=by cases v <;> first | rfl | exact absurd ⟨_,rfl⟩ hs
   have hB:nmV v=false:=by cases v <;> first | rfl | exact absurd ⟨_,rfl⟩ hs
   have:=q _ (al.refl _)
   rw [hB] at this
   exact⟨false,by rw [hst],wq this⟩
end
def ScB(H:Hp)(a:Addr)(sc:Str→Option Str)(b:Nat):Prop:=∃ kvs:List (Key×V),H a=some (.dK kvs)∧kvs.length≤b∧∀ x:Str,bj kvs (.inr x)=(sc x).map V.str
theorem ScB.same{H H':Hp}{a:Addr}{sc:Str→Option Str}{b:Nat}(h:ScB H a sc b)(s:al H H'):ScB H' a sc b:=let ⟨kvs,e,r⟩:=h; ⟨kvs,s _ _ e,r⟩
theorem ScB.at{H:Hp}{a:Addr}{sc:Str→Option Str}{b:Nat}(h:ScB H a sc b)(hb:b≤100):lq H a sc:=let ⟨kvs,e,l,r⟩:=h; ⟨kvs,e,YE l hb,r⟩
mutual
def dJ:PyData→Bool
 | .str x=>decide (x.length≤100000)
 | .list xs=>decide (xs.length≤100000)&&bW xs
 | .tuple xs=>decide (xs.length≤100000)&&bW xs
 | _=>true
def bW:List PyData→Bool
 | []=>true
 | x::xs=>dJ x&&bW xs
end
theorem Rd0.len{H:Hp}{v:V}{d:PyData}(h:Rd0 H v d)(s:dJ d=true):∀ z,v=.str z→z.length≤100000:=by
 rintro z rfl
 cases h
 exact of_decide_eq_true s
theorem tX{H:Hp}{v:V}{d:PyData}(h:Rd0 H v d)(n:nmV v=true):∃ z,v=.str z∧d=.str z∧nmB z=true:=by
 cases h <;> first | exact⟨_,rfl,rfl,n⟩ | cases n
theorem mU{ks:List Str}{ts:List aq}{fs:List ao}{S:Sco}{H:Hp}{v:V}{d0 d1 d2:PyData}(h:Rd0 H v d0)(n:nmV v=false):dy ks ts fs [d0,d1,d2] S=false:=by
 cases h with
 | str z=>cases d1 <;> first | rfl | (show (true&&nmB z&&_&&_)=false; rw [show nmB z=false from n]; rfl)
 | _=>rfl
theorem gK{ks:List Str}{ts:List aq}{fs:List ao}{S:Sco}{xn kd:Str}{d:PyData}:dy ks ts fs [.str xn,.str kd,d] S=(true&&nmB xn&&ks.contains kd&&bg ks ts fs d (S.put xn kd)):=rfl
theorem uU{ks:List Str}{ts:List aq}{fs:List ao}{S:Sco}{H:Hp}{v:V}{xn:Str}{d1 d2:PyData}(kn:∀ k∈ks,cV k)(h:Rd0 H v d1)(n:nmV v=false):dy ks ts fs [.str xn,d1,d2] S=false:=by
 cases h with
 | str z=>
  have hz:ks.contains z=false:=by
   cases e:ks.contains z with
   | false=>rfl
   | true=>
    have h2:=zm (kn z (List.contains_iff_mem.mp e))
    rw [show nmB z=false from n] at h2
    cases h2
  rw [gK,hz]
  simp
 | _=>rfl
section
abbrev bo:Stmt:=top 23
theorem zcd:ai ["table","word","things","scope","room","variable","kind","part","inner"] lB1 (ag bo):=by walk_at "F"
inductive spSayE(C N:Addr)(n:Nat)(vs:List V)(H:Hp)(Q:VK)(E:XK):Prop | mk (x sc:Addr) (v:V) (r:Nat) (ks:List Str) (ts:List aq) (fs:List ao) (S:Sco) (bb:Nat) (d:PyData) (_:vs=[.ref x,v,.ref sc,.int r]) (_:lp C H x ks ts fs) (_:aU ks ts fs) (_:ScB H sc S bb) (_:bb+n≤100) (_:Rd0 H v d) (_:dJ d=true) (_:d.depth≤n) (_:d.depth≤r) (_:(bg ks ts fs d S=true→∀ u H',Rd0 H' u (tupD d)→al H H'→Q u H')) (_:(bg ks ts fs d S=false→∀ H',al H H'→E (.ref N) none H'))
inductive spBindE(C N:Addr)(n:Nat)(vs:List V)(H:Hp)(Q:VK)(E:XK):Prop | mk (x sc l:Addr) (r:Nat) (ks:List Str) (ts:List aq) (fs:List ao) (S:Sco) (bb:Nat) (wd:Str) (xs:List V) (ds:List PyData) (_:vs=[.ref x,.str wd,.ref l,.ref sc,.int r]) (_:lp C H x ks ts fs) (_:aU ks ts fs) (_:ScB H sc S bb) (_:bb+1+n≤100) (_:H l=some (.lst xs)) (_:aB H xs ds) (_:bW ds=true) (_:YQ ds≤n) (_:YQ ds≤r) (_:(dy ks ts fs ds S=true→∀ u H',Rd0 H' u (.tuple (.str wd::be ds))→al H H'→Q u H')) (_:(dy ks ts fs ds S=false→∀ H',al H H'→E (.ref N) none H'))
theorem tR{C N:Addr}(F:ah K mg "checked_binding" bo lB1)(Z:Bl mg)(n_dict:mg "dict"=none)(T:ClT K C)(O_NoSaying:cX K mg "NoSaying" N)(D_check_many:bc P w K mg base "check_many" 1 lC4 (spManyE N))(D_is_name:bc P w K mg base "is_name" 1 lB0 spNameE)(n k:Nat)
  (D_checked_saying:bc P w K mg base "checked_saying" (k+1) lA4 (spSayE C N n)):bc P w K mg base "checked_binding" (k+2) lB1 (spBindE C N n):=by
 have SC:=zcd
 refine F.mkE (k:=k+1) zcd (fun vs H Q E h=>?_) (fun f cdv A outer s H vs Q E hr h=>?_)
 ·obtain⟨x,sc,l,r,ks,ts,fs,S,bb,wd,xs,ds,rfl,_⟩:=h
  rfl
 ·obtain⟨x,sc,l,r,ks,ts,fs,S,bb,wd,xs,ds,rfl,hT,ok,hS,hb,hl,hm,hsh,hn,hrr,q,no⟩:=h
  refine'⟨_,?dv,?_⟩
  case dv=>(have:=aj 9 72 4 24; have:=aj 15 78 4 26; walk_at "S2")
  have len1:=aB.length hm
  refine⟨_,rfl,l,xs,3,rfl,hl,fun lenE=>?_,fun lenE H' s'=>no ?_ H' s'⟩
  rotate_left
  ·match ds,len1 with
   | [],_=>rfl
   | [_],_=>cases ‹PyData› <;> rfl
   | [a,b],_=>cases a <;> first | rfl | (cases b <;> rfl)
   | [_,_,_],z=>exact absurd z lenE
   | a::b::c::d::r,_=>cases a <;> first | rfl | (cases b <;> rfl)
  obtain⟨va,vb,vc,rfl⟩:=Few.le3 lenE
  cases hm with
  | @cons _ _ d0 _ m0 hm=>
  cases hm with
  | @cons _ _ d1 _ m1 hm=>
  cases hm with
  | @cons _ _ d2 _ m2 hm=>
  cases hm
  simp only [bW,YW] at hsh
  obtain⟨sh0,sh1,sh2,_⟩:=hsh
  have dp2:d2.depth≤YQ [d0,d1,d2]:=cH (i:=2) rfl
  refine⟨_,rfl,l,_,rfl,.inl (SqL.of hl),rfl,_,_,rfl,_,_,rfl,_,_,rfl,rfl,?_⟩
  refine⟨_,rfl,va,rfl,Rd0.sh m0,Rd0.len m0 sh0,fun H1 s1=>⟨_,rfl,?_⟩⟩
  cases hx:nmV va with
  | false=>exact ifT rfl ⟨by show 1≤sizeLine; decide,no (mU m0 hx) _ s1⟩
  | true=>
  obtain⟨xn,rfl,rfl,hxn⟩:=tX m0 hx
  refine ifF (by decide) ?_
  refine⟨_,rfl,vb,rfl,Rd0.sh (Rd0.same m1 s1),Rd0.len m1 sh1,fun H2 s2=>⟨_,rfl,?_⟩⟩
  have s02:=s1.trans s2
  cases hkn:nmV vb with
  | false=>exact ifT rfl (ifT rfl ⟨by show 1≤sizeLine; decide,no (uU ok.kn2 m1 hkn) _ s02⟩)
  | true=>
  obtain⟨kd,rfl,rfl,_⟩:=tX m1 hkn
  refine ifF (by decide) ?_
  have hT2:=hT.same s02
  obtain⟨dx,ka,tb,fb,kb,tp,fp,fk,h1,h2,h3,h4,h5,h6,h7,h8,h9⟩:=id hT2
  refine⟨_,rfl,_,rfl,x,C,dx,_,_,rfl,h1,T.cl,T.n1,zx _ _ _ _,ka,_,rfl,.inl (SqL.of h2),rfl,dh ks,_,rfl,?_⟩
  by_cases hk:kd∈ks
  rotate_left
  ·refine ifT ?_ ⟨by show 1≤sizeLine; decide,no ?_ _ s02⟩
   ·rw [cQ,decide_eq_false hk]
    rfl
   ·rw [gK,show ks.contains kd=false from by simpa using hk]
    simp
  have hbd:dy ks ts fs [.str xn,.str kd,d2] S=bg ks ts fs d2 (S.put xn kd):=by
   rw [gK,hxn,show ks.contains kd=true from by simpa using hk]
   simp
  rw [hbd] at q no
  refine ifF ?_ ?_
  ·rw [cQ,decide_eq_true hk]
   decide
  obtain⟨kvs,e1,el,e2⟩:=hS.same s02
  refine⟨_,rfl,sc,kvs,rfl,e1,fun d hd=>?_⟩
  have s3:=ac hd (.dK kvs)
  refine⟨_,rfl,_,rfl,_,rfl,d,_,rfl,oQ.k (k:=.inr xn) aa (Xz (show kvs.length≤100 by omega) (by decide)),?_⟩
  have s4:al H2 (upd (upd H2 d (.dK kvs)) d (.dK (cg kvs (.inr xn) (.str kd)))):=fun c o e=>by rw [ae (af e hd)]; exact s3 c o e
  have eS:ScB (upd (upd H2 d (.dK kvs)) d (.dK (cg kvs (.inr xn) (.str kd)))) d (S.put xn kd) (bb+1):=by
   refine⟨_,aa,YE (bz _ _ _) (by omega),fun y=>?_⟩
   rw [eK]
   unfold Sco.put
   by_cases hy:y=xn
   ·rw [if_pos (by rw [hy]),if_pos hy]; rfl
   ·rw [if_neg (fun z=>hy (Sum.inr.inj z)),if_neg hy]; exact e2 y
  generalize (upd (upd H2 d (.dK kvs)) d (.dK (cg kvs (.inr xn) (.str kd))))=H4 at s4 eS
  have s04:=s02.trans s4
  refine⟨_,rfl,_,rfl,_,rfl,_,rfl,_,rfl,_,rfl,_,rfl,x,d,vc,r,ks,ts,fs,S.put xn kd,bb+1,d2,rfl,hT.same s04,ok,eS,by omega,Rd0.same m2 s04,sh2,by omega,by omega,fun hy u H5 tu s5=>?_,fun hy H' s'=>no hy H' (s04.trans s')⟩
  refine⟨by show 4≤sizeLine; decide,fun p hp=>?_⟩
  have s6:=ac hp (.tup [.str wd,.str xn,.str kd,u])
  exact q hy _ _ (.tup trivial aa (.cons (.str _) (.cons (.str _) (.cons (.str _) (.cons (Rd0.same tu s6) .nil))))) (s04.trans (s5.trans s6))
end
theorem uo{K:WB}{z:Str}{ws:List Str}{H:Hp}{Q:VK}(hz:(ws.map V.str).length≤sizeLine)(q:∀ tt,H tt=none→Q (.bl (decide (z∈ws))) (upd H tt (.tup (ws.map V.str)))):(ws.map V.str).length≤sizeLine∧∀ p,H p=none→rIn K false (.str z) (.ref p) (upd H p (.tup (ws.map V.str))) Q:=
 ⟨hz,fun tt htt=>⟨tt,ws.map V.str,rfl,.inr (SqT.of aa),rfl,dh ws,by have:=q tt htt; rw [← cQ] at this; exact this⟩⟩
theorem oU{ks:List Str}{ts:List aq}{fs:List ao}{S:Sco}{d:PyData}{x:Str}{ds:List PyData}(h:cS d=some (x,ds)):bg ks ts fs d S=eB ks ts fs (.str x::ds) S:=by
 cases d with
 | list xs=>
  match xs,h with
  | .str w::r,h=>cases h; rfl
 | tuple xs=>
  match xs,h with
  | .str w::r,h=>cases h; rfl
 | _=>cases h
theorem gQ{ks:List Str}{ts:List aq}{fs:List ao}{S:Sco}{d:PyData}(h:cS d=none):bg ks ts fs d S=false:=by
 cases d with
 | list xs=>
  match xs,h with
  | [],_=>rfl
  | .str w::r,h=>cases h
  | .none::r,h=>rfl
  | .bool _::r,h=>rfl
  | .int _::r,h=>rfl
  | .list _::r,h=>rfl
  | .tuple _::r,h=>rfl
  | .dict _::r,h=>rfl
 | tuple xs=>
  match xs,h with
  | [],_=>rfl
  | .str w::r,h=>cases h
  | .none::r,h=>rfl
  | .bool _::r,h=>rfl
  | .int _::r,h=>rfl
  | .list _::r,h=>rfl
  | .tuple _::r,h=>rfl
  | .dict _::r,h=>rfl
 | _=>rfl
theorem pW{d:PyData}{x:Str}{ds:List PyData}(h:cS d=some (x,ds))(s:dJ d=true):ds.length≤100000∧bW ds=true:=by
 cases d with
 | list xs=>
  match xs,h with
  | .str w::r,h=>
   cases h
   simp only [dJ,bW,YW,decide_eq_true_eq,YR] at s
   exact⟨by omega,s.2.2⟩
 | tuple xs=>
  match xs,h with
  | .str w::r,h=>
   cases h
   simp only [dJ,bW,YW,decide_eq_true_eq,YR] at s
   exact⟨by omega,s.2.2⟩
 | _=>cases h
theorem lK:∀ {ds:List PyData} {i:Nat} {d:PyData},bW ds=true→ds[i]? = some d→dJ d=true
 | d::ds,0,_,h,e=>by cases e; simp only [bW,YW] at h; exact h.1
 | _::ds,i+1,d,h,e=>by simp only [bW,YW] at h; exact lK (ds:=ds) (i:=i) h.2 e
theorem all_iff{ks:List Str}{ts:List aq}{fs:List ao}{S:Sco}:∀ {ds:List PyData},bO ks ts fs ds S=true↔∀ (i:Nat) (d:PyData),ds[i]? = some d→bg ks ts fs d S=true
 | []=>⟨fun _ i d e=>(by cases e),fun _=>rfl⟩
 | d::ds=>by
  show (bg ks ts fs d S&&bO ks ts fs ds S)=true↔_
  rw [YW,all_iff (ds:=ds)]
  constructor
  ·rintro⟨h1,h2⟩ i d' e
   cases i with
   | zero=>cases e; exact h1
   | succ i=>exact h2 i d' e
  ·intro h
   exact⟨h 0 d rfl,fun i d' e=>h (i+1) d' e⟩
theorem pS{ks:List Str}{ts:List aq}{fs:List ao}{S:Sco}{ds:List PyData}{i:Nat}{d:PyData}(a:ds[i]? = some d)(h:bg ks ts fs d S=false):bO ks ts fs ds S=false:=by
 cases e:bO ks ts fs ds S with
 | false=>rfl
 | true=>rw [all_iff.mp e i d a] at h; cases h
theorem gz{c A B R:Prop}[Decidable c](h:R)(f:c→R→A)(g:¬ c→R→B):if c then A else B:=by
 by_cases hc:c
 ·rw [if_pos hc]; exact f hc h
 ·rw [if_neg hc]; exact g hc h
theorem gY{ks:List Str}{ts:List aq}{fs:List ao}{S:Sco}{w0:Str}{ds:List PyData}(hw:w0∈(lD5:List Str))(h1:w0="not"→ds.length=1):eB ks ts fs (.str w0::ds) S=bO ks ts fs ds S:=by
 simp only [YM,XB,or_false] at hw
 rcases hw with rfl | rfl | rfl
 ·show (ds.length==1&&bO ks ts fs ds S)=_
  rw [h1 rfl]; rfl
 ·rfl
 ·rfl
theorem gZ{ks:List Str}{ts:List aq}{fs:List ao}{S:Sco}{w0:Str}{ds:List PyData}(hw:w0∈(lE0:List Str)):eB ks ts fs (.str w0::ds) S=dy ks ts fs ds S:=by
 simp only [YM,XB,or_false] at hw
 rcases hw with rfl | rfl
 ·rfl
 ·rfl
theorem iY{ks:List Str}{ts:List aq}{fs:List ao}{S:Sco}{w0:Str}{ds:List PyData}(h1:w0≠"=")(h2:¬ w0∈(lD5:List Str))(h3:¬ w0∈(lE0:List Str)):eB ks ts fs (.str w0::ds) S=match eM ts w0 with
  | some ps=>bI fs S ds ps
  | none=>false:=by
 simp only [YM,XB,or_false,not_or] at h2 h3
 simp only [eB,if_neg h1,if_neg h2.1,if_neg (show ¬ (w0="and"∨w0="or") from fun z=>z.elim h2.2.1 h2.2.2),if_neg (show ¬ (w0="all"∨w0="some") from fun z=>z.elim h3.1 h3.2)]
 first | done | (cases eM ts w0 <;> rfl)
section
abbrev bu:Stmt:=top 21
theorem zce:ai ["table","thing","scope","room","word","things"] lA4 (ag bu):=by walk_at "F"
def ky(C N:Addr):Nat→Sp
 | 0=>fun _ _ _ _=>False
 | n+1=>spSayE C N n
def iV(C N:Addr):Nat→Sp
 | 0=>fun _ _ _ _=>False
 | n+1=>spBindE C N n
theorem nG{C N:Addr}{m:Nat}{vs:List V}{H:Hp}{Q:VK}{E:XK}(h:spSayE C N m vs H Q E):ky C N (m+1) vs H Q E:=h
theorem lJ{C N:Addr}{m:Nat}{vs:List V}{H:Hp}{Q:VK}{E:XK}(h:spBindE C N m vs H Q E):iV C N (m+1) vs H Q E:=h
theorem i8{C N:Addr}(F:ah K mg "checked_saying" bu lA4)(Z:Bl mg)(T:ClT K C)(O_NoSaying:cX K mg "NoSaying" N)(D_check_many:bc P w K mg base "check_many" 1 lC4 (spManyE N))(D_word_and_things:bc P w K mg base "word_and_things" 2 lD2 (spWordE N))(n:Nat)
  (D_checked_equation:bc P w K mg base "checked_equation" (2*n+4) lC1 (spEqE C N n)) (D_checked_row:bc P w K mg base "checked_row" (2*n+4) lA7 (spRowE C N n))
  (D_checked_saying:bc P w K mg base "checked_saying" (2*n+3) lA4 (ky C N n)) (D_checked_binding:bc P w K mg base "checked_binding" (2*n+4) lB1 (iV C N n)) :
  bc P w K mg base "checked_saying" (2*n+5) lA4 (spSayE C N n):=by
 have SC:=zce
 refine F.mkE (k:=2*n+4) zce (fun vs H Q E h=>?_) (fun f cdv A outer s H vs Q E hr h=>?_)
 ·obtain⟨x,sc,v,r,ks,ts,fs,S,bb,d,rfl,_⟩:=h
  rfl
 ·obtain⟨x,sc,v,r,ks,ts,fs,S,bb,d,rfl,hT,ok,hS,hb,hv,hsh,hn,hrr,q,no⟩:=h
  refine'⟨_,?dv,?_⟩
  case dv=>(have:=aj 25 62 17 93; have:=aj 25 57 21 95; have:=aj 17 62 53 75; have:=bB 57 30 95 1 ["part","table","thing","scope","room","word","things"]; have:=aj 28 60 7 35; walk_at "S2")
  refine⟨_,rfl,_,rfl,v,d,r,rfl,hv,fun w0 ds r0 hw p la xs H1 e1 e2 m1 s1=>?_,fun hno H' s'=>?_⟩
  rotate_left
  ·rcases hno with z | z
   ·cases hw:cS d with
    | none=>exact no (gQ hw) H' s'
    | some y=>have:=fo (x:=y.1) (ds:=y.2) hw; omega
   ·exact no (gQ z) H' s'
  have hdp:=fo hw
  have htd:=oS hw
  have hsd:=oU (ks:=ks) (ts:=ts) (fs:=fs) (S:=S) hw
  obtain⟨l50,shs⟩:=pW hw hsh
  obtain⟨m,rfl⟩:∃ m,n=m+1:=⟨n-1,by omega⟩
  obtain⟨r,rfl⟩:∃ r',r=r'+1:=⟨r-1,by omega⟩
  have hp2:∀ f∈fs,f.ps.length≤2:=fun f hf=>(ok.fn f hf).2.1
  refine⟨p,_,rfl,SqT.of e1,rfl,_,_,rfl,_,_,rfl,rfl,?_⟩
  have hT1:=hT.same s1
  have hS1:=hS.same s1
  have rr:(((r+1:Nat):Int) - 1)=(r:Int):=by omega
  have ml:=aB.length m1
  refine⟨_,rfl,rfl,_,rfl,?_⟩
  by_cases hw1:w0="="
  ·refine ifT (decide_eq_true (by rw [hw1])) ?_
   subst hw1
   rw [show eB ks ts fs (.str "="::ds) S=eqD fs S ds from rfl] at hsd
   refine⟨_,rfl,_,rfl,_,rfl,_,rfl,_,1,rfl,rfl,x,sc,la,r,ks,ts,fs,S,xs,ds,by rw [← rr]; rfl,hT1,hp2,hS1.at (by omega),e2,m1,by omega,by omega,fun hy u H' tu s'=>q (by rw [hsd,hy]) u H' (by rw [htd]; exact tu) (s1.trans s'),fun hy H' s'=>no (by rw [hsd,hy]) H' (s1.trans s')⟩
  refine ifF (by simp; exact hw1) ?_
  have hbad:w0="not"→ds.length≠1→bg ks ts fs d S=false:=fun z hl=>by
   subst z
   rw [hsd]
   show (ds.length==1&&bO ks ts fs ds S)=false
   rw [show (ds.length==1)=false from beq_eq_false_iff_ne.mpr hl]
   rfl
  refine⟨_,rfl,rfl,_,rfl,gz (R:=(w0="not"→ds.length=1)→_) ?rest (fun e h=>⟨_,rfl,la,xs,1,rfl,e2,fun hl=>h (fun _=>by omega),fun hl H' s'=>no (hbad (V.str.inj (of_decide_eq_true e)) (by omega)) H' (s1.trans s')⟩) (fun hne h=>h fun z=>absurd (decide_eq_true (by rw [z])) hne)⟩
  intro hone
  refine⟨_,rfl,uo (ws:=lD5) (by decide) fun tt htt=>⟨_,rfl,?_⟩⟩
  have s12:=ac htt (.tup (List.map V.str lD5))
  have s2:=s1.trans s12
  generalize (upd H1 tt (.tup (List.map V.str lD5)))=H2 at s2 s12
  by_cases hw2:w0∈(lD5:List Str)
  ·refine ifT (decide_eq_true hw2) ?_
   rw [gY hw2 hone] at hsd
   refine⟨_,rfl,by show 1≤sizeLine; decide,fun l1 hl1=>?_⟩
   have s3:=ac hl1 (.lst [.str w0])
   have e3:(upd H2 l1 (.lst [.str w0])) l1=some (.lst [.str w0]):=aa
   generalize (upd H2 l1 (.lst [.str w0]))=H3 at s3 e3
   have s13:=s12.trans s3
   refine⟨_,rfl,la,rfl,⟨_,SqL.of (s13 _ _ e2)⟩,?_⟩
   intro cl C1 ex s0 Hc
   refine bi xs.length (fun i ys H4=>al H3 H4∧aB H4 ys (be (ds.take i))∧∀ j d,j<i→ds[j]? = some d→bg ks ts fs d S=true) (fun i y=>xs[i]? = some y) ⟨al.refl _,.nil,fun j d z=>by omega⟩ (YE (show xs.length≤100000 by omega) (by decide))
    (fun i ys H4 hi _ ⟨z,_⟩=>dF (SqL.of (z _ _ (s13 _ _ e2))) hi) (fun ys H4 _ ⟨z,_⟩=>ck (SqL.of (z _ _ (s13 _ _ e2)))) ?_ ?_
   ·rintro i y ys H4 hi hy hyl ⟨s4,t4,h4⟩
    obtain⟨d',hd',hmt⟩:=aB.get m1 hy
    have dt:=cH hd'
    have s14:=s13.trans s4
    refine⟨_,rfl,_,rfl,_,rfl,_,rfl,_,1,rfl,rfl,?_⟩
    unfold fS
    refine nG ⟨x,sc,y,r,ks,ts,fs,S,bb,d',by rw [← rr]; rfl,hT1.same s14,ok,hS1.same s14,by omega,Rd0.same hmt s14,lK shs hd',by omega,by omega,fun hy2 u H5 tu s5=>⟨s4.trans s5,?_,fun j d2 hj e=>?_⟩,fun hy2 H' s'=>no (by rw [hsd]; exact pS hd' hy2) H' ((s1.trans s14).trans s')⟩
    ·rw [Y7,hd',bt,Y1,← bt]
     exact aB.snoc (aB.same t4 s5) tu
    ·by_cases hji:j<i
     ·exact h4 j d2 hji e
     ·obtain rfl:j=i:=by omega
      rw [e] at hd'; cases hd'; exact hy2
   ·rintro ys H4 hyl ⟨s4,t4,h4⟩ D hD
    rw [ml,Y8] at t4
    have s5:=ac hD (.lst ys)
    have hall:bO ks ts fs ds S=true:=all_iff.mpr fun i d2 e=>h4 i d2 (by have:=(YV.mp e).1; omega) e
    refine⟨l1,D,_,_,rfl,rfl,s5 _ _ (s4 _ _ e3),aa,YE (show 1+ys.length≤100001 by omega) (by decide),fun L hL=>?_⟩
    refine⟨L,_,rfl,.inl ⟨SqL.of aa,fun tt2 htt2=>?_⟩⟩
    have s6:=ac hL (.lst ([.str w0]++ys))
    have s7:=ac htt2 (.tup ([.str w0]++ys))
    have s47:=s5.trans (s6.trans s7)
    refine q (by rw [hsd,hall]) _ _ ?_ (s1.trans (s13.trans (s4.trans s47)))
    rw [htd]
    exact .tup trivial aa (.cons (.str _) (aB.same t4 s47))
  refine ifF (by rw [decide_eq_false hw2]; exact YN) ?_
  refine⟨_,rfl,uo (ws:=lE0) (by decide) fun t2 ht2=>⟨_,rfl,?_⟩⟩
  have s3:=s12.trans (ac ht2 (.tup (List.map V.str lE0)))
  generalize (upd H2 t2 (.tup (List.map V.str lE0)))=H3 at s3
  by_cases hw3:w0∈(lE0:List Str)
  ·refine ifT (decide_eq_true hw3) ?_
   rw [gZ hw3] at hsd
   refine⟨_,rfl,_,rfl,_,rfl,_,rfl,_,rfl,_,1,rfl,rfl,?_⟩
   unfold fS
   exact lJ ⟨x,sc,la,r,ks,ts,fs,S,bb,w0,xs,ds,by rw [← rr]; rfl,hT1.same s3,ok,hS1.same s3,by omega,s3 _ _ e2,aB.same m1 s3,shs,by omega,by omega,fun hy u H' tu s'=>q (by rw [hsd,hy]) u H' (by rw [htd]; exact tu) (s1.trans (s3.trans s')),fun hy H' s'=>no (by rw [hsd,hy]) H' (s1.trans (s3.trans s'))⟩
  refine ifF (by rw [decide_eq_false hw3]; exact YN) ?_
  rw [iY hw1 hw2 hw3] at hsd
  have hT3:=hT1.same s3
  obtain⟨dx,ka,tb,fb,kb,tp,fp,fk,h1,h2,h3,h4,h5,h6,h7,h8,h9⟩:=id hT3
  have hg:∀ H',al H3 H'→eA H' tb (.str w0) (bj tp (.inr w0)):=fun H' s=>eA.k (k:=.inr w0) (s _ _ h3)
  cases ht:eM ts w0 with
  | none=>
   rw [ht] at hsd
   have hg1:=hg H3 (al.refl _)
   rw [h7 w0 ht] at hg1
   exact⟨_,rfl,_,rfl,x,C,dx,_,_,rfl,h1,T.cl,T.n2,uG _ _ _ _,tb,_,rfl,hg1,_,rfl,ifT rfl ⟨by show 1≤sizeLine; decide,no hsd _ (s1.trans s3)⟩⟩
  | some ps=>
   rw [ht] at hsd
   replace hsd:bg ks ts fs d S=bI fs S ds ps:=hsd
   obtain⟨pl,g1,g2⟩:=h6 w0 ps ht
   rw [g1] at hg
   have pl2:ps.length≤2:=by
    unfold eM at ht
    obtain⟨t,hf,e⟩:=YS.mp ht
    cases e
    exact(ok.tn t (X7 hf)).2.1
   refine⟨_,rfl,_,rfl,x,C,dx,_,_,rfl,h1,T.cl,T.n2,uG _ _ _ _,tb,_,rfl,hg H3 (al.refl _),_,rfl,dz ?_⟩
   refine⟨_,rfl,by show 1≤sizeLine; decide,fun l1 hl1=>?_⟩
   have s4:=ac hl1 (.lst [.str w0])
   have s14:=s3.trans s4
   refine⟨_,rfl,_,rfl,_,rfl,x,C,dx,_,_,rfl,s4 _ _ h1,T.cl,T.n2,uG _ _ _ _,_,rfl,tb,_,rfl,hg _ s4,_,rfl,_,rfl,_,1,rfl,rfl,x,sc,la,pl,r,ks,ts,fs,S,xs,ds,ps,by rw [← rr]; rfl,hT1.same s14,hp2,(hS1.same s14).at (by omega),s14 _ _ e2,aB.same m1 s14,s4 _ _ g2,pl2,by omega,by omega,fun hrow q' us H4 hq' e3 tu s5=>?_,fun hrow H' s'=>no (by rw [hsd,hrow]) H' (s1.trans (s14.trans s'))⟩
   have usl:=aB.length tu
   rw [bt,YC] at usl
   refine⟨l1,q',_,_,rfl,rfl,s5 _ _ aa,e3,YE (show 1+us.length≤100001 by omega) (by decide),fun L hL=>?_⟩
   refine⟨L,_,rfl,.inl ⟨SqL.of aa,fun tt2 htt2=>?_⟩⟩
   have s6:=ac hL (.lst ([.str w0]++us))
   have s7:=ac htt2 (.tup ([.str w0]++us))
   refine q (by rw [hsd,hrow]) _ _ ?_ (s1.trans (s14.trans (s5.trans (s6.trans s7))))
   rw [htd]
   exact .tup trivial aa (.cons (.str _) (aB.same tu (s6.trans s7)))
theorem tF{C N:Addr}(F:ah K mg "checked_saying" bu lA4):bc P w K mg base "checked_saying" 3 lA4 (ky C N 0):=
 F.mkE (k:=2) zce (fun vs H Q E h=>False.elim h) fun f cdv A outer s H vs Q E hr h=>False.elim h
theorem qA{C N:Addr}(F:ah K mg "checked_binding" bo lB1):bc P w K mg base "checked_binding" 4 lB1 (iV C N 0):=
 F.mkE (k:=3) zcd (fun vs H Q E h=>False.elim h) fun f cdv A outer s H vs Q E hr h=>False.elim h
theorem lY{C N:Addr}(F1:ah K mg "checked_saying" bu lA4)(F2:ah K mg "checked_binding" bo lB1)(F3:ah K mg "checked_equation" bC lC1)
  (Z:Bl mg) (T:ClT K C) (n_dict:mg "dict"=none) (O:cX K mg "NoSaying" N) (D_check_many:bc P w K mg base "check_many" 1 lC4 (spManyE N)) (D_word_and_things:bc P w K mg base "word_and_things" 2 lD2 (spWordE N)) (D_is_name:bc P w K mg base "is_name" 1 lB0 spNameE)
  (tm:∀ n,bc P w K mg base "checked_term" (2*n+3) lA4 (spTmE C N n)∧bc P w K mg base "checked_row" (2*n+4) lA7 (spRowE C N n)) :
  ∀ n,bc P w K mg base "checked_saying" (2*n+5) lA4 (spSayE C N n)
 | 0=>i8 F1 Z T O D_check_many D_word_and_things 0 (tQ F3 Z O D_check_many 0 (tm 0).1) (tm 0).2 (tF F1) (qA F2)
 | n+1=>by
  have ih:=lY F1 F2 F3 Z T n_dict O D_check_many D_word_and_things D_is_name tm n
  exact i8 F1 Z T O D_check_many D_word_and_things (n+1) (tQ F3 Z O D_check_many (n+1) (tm (n+1)).1) (tm (n+1)).2 ih (tR F2 Z n_dict T O D_check_many D_is_name n (2*n+4) ih)
end
def bS:Nat→Nat
 | 0=>222
 | n+1=>3*bS n+11
theorem oN:∀ n,222≤bS n
 | 0=>YD _
 | n+1=>by rw [bS]; have:=oN n; omega
theorem lH{ks:List Str}{ts:List aq}{fs:List ao}{S:Str→Option Str}{a:Tr}(h:fN ks ts fs S a):∀ {l:List Tr},fm ks ts fs S l→fm ks ts fs S (l++[a])
 | _,.nil=>.cons h .nil
 | _,.cons f r=>.cons f (lH h r)
theorem xH(ws:List Str){r:Int}(h0:0≤r)(h1:r<ws.length):∃ w∈ws,atI (ws.map V.str) r=some (.str w):=by
 have h:r.toNat<ws.length:=by omega
 exact⟨ws[r.toNat],XL h,aH h0 (by rw [YZ]; simp [h])⟩
theorem zo:∀ j,j<6→∃ c:Nat,c≤3∧([V.int 0,V.int 1,V.int 2,V.int 2,V.int 2,V.int 3]:List V)[j]? = some (.int c):=by
 intro j hj
 have : j=0∨j=1∨j=2∨j=3∨j=4∨j=5:=by omega
 rcases this with rfl | rfl | rfl | rfl | rfl | rfl
 ·exact⟨0,by decide,rfl⟩
 ·exact⟨1,by decide,rfl⟩
 ·exact⟨2,by decide,rfl⟩
 ·exact⟨2,by decide,rfl⟩
 ·exact⟨2,by decide,rfl⟩
 ·exact⟨3,by decide,rfl⟩
def varMenu:List Str:=["x","y","z","all","not","r","f"]
theorem fQ:∀ k∈varMenu,cV k:=by unfold cV; decide +kernel
theorem wO:∀ w∈[("all":Str),"all","some"],w="all"∨w="some":=by
 intro w hw
 rcases YM.mp hw with h | h
 ·exact .inl h
 rcases YM.mp h with h | h
 ·exact .inl h
 ·exact .inr (YK.mp h)
section
abbrev bG:Stmt:=top 55
theorem zcf:ai ["_law_pot_here","_law_book_here","_law_scope","_law_deep","_law_way","_law_many","_law_word","_law_name_here","_law_kind"] lA1 (ag bG):=by walk_at "F"
inductive spSin(n:Nat)(vs:List V)(H:Hp)(Q:VK)(e3_:XK):Prop | mk (p b a:Addr) (ps:List (Str×Str)) (ks:List Str) (ts:List aq) (fs:List ao) (_:vs=[.ref p,.ref b,.ref a,.int n]) (_:bf H p) (_:fO H p b ks ts fs) (_:aU ks ts fs) (_:ScL H a ps) (_:ps.length≤3) (_:(∀ q∈ps,cV q.1)) (_:∀ v H' t,Tup H' v t→fN ks ts fs (cb ps) t→Fit (3+n) (bS n) t→aw p H H'→Q v H')
def ku:Nat→Sp
 | 0=>fun _ _ _ _=>False
 | n+1=>spSin n
theorem jP(F:ah K mg "_law_saying_in" bG lA1)(Z:Bl mg)(D_law_draw:Def P w K mg base "_law_draw" 1 lA5 spDraw)(D_law_atom:Def P w K mg base "_law_atom" 6 lA1 spAtom)(n:Nat)
  (D_law_saying_in:Def P w K mg base "_law_saying_in" (n+6) lA1 (ku n)):Def P w K mg base "_law_saying_in" (n+7) lA1 (spSin n):=by
 have SC:=zcf
 refine F.mk' (k:=n+6) zcf (fun vs H Q E h=>?_) (fun f cdv A outer s H vs Q E hr h=>?_)
 ·obtain⟨p,b,a,ps,ks,ts,fs,rfl,_⟩:=h
  rfl
 ·obtain⟨p,b,a,ps,ks,ts,fs,rfl,hp,hb,ok,hs,hl,hn,q⟩:=h
  refine'⟨_,?dv,?_⟩
  case dv=>(have:=aj 11 254 15 160; have:=aj 10 257 16 33; have:=aj 24 248 67 83; have:=aj 25 258 96 138; have:=aj 10 257 63 80; have:=bB 254 54 159 1 ["_law_k","_law_pot_here","_law_book_here","_law_scope","_law_deep","_law_way","_law_many","_law_word","_law_name_here","_law_kind"]; have:=aj 26 248 67 83; walk_at "S2")
  obtain⟨x0,x1,x2,ep,ha,hb0,hb1⟩:=id hp
  refine⟨_,rfl,p,_,2,.int x2,rfl,rfl,by decide,SqL.of ep,rfl,_,_,rfl,rfl,p,_,2,2,rfl,rfl,ep,rfl,?_⟩
  generalize hHA:upd H p (.lst (List.set [V.int x0,V.int x1,V.int x2] 2 (V.int (x2-1))))=HA
  have wA:aw p H HA:=⟨⟨x0,x1,x2-1,by rw [← hHA]; exact aa,ha,hb0,hb1⟩,by rw [← hHA]; exact av.upd _ _ _⟩
  refine⟨_,rfl,p,12,rfl,wA.pot,by decide,by decide,fun r H1 r0 r1 p1 s1=>?_⟩
  have w1:aw p H H1:=wA.mk1 p1 s1
  dsimp only [du]
  have b1:=RdV.went hb w1.same
  have sc1:∀ {H'},aw p H H'→ScL H' a ps:=fun w'=>hs.went hp w'.same
  refine kD (fun σ' H'=>σ'=[some (.ref p),some (.ref b),some (.ref a),some (.int n),some (.int r),none,none,none,none]∧aw p H H'∧n≠0) ?_ (fun go=>?_)
  ·rintro σ' H5 ⟨rfl,w5,n0⟩
   obtain⟨m,rfl⟩:∃ m,n=m+1:=⟨n-1,by omega⟩
   have sub:∀ (a':Addr) (ps':List (Str×Str)) (H':Hp) (R:VK),aw p H H'→ScL H' a' ps'→ps'.length≤3→(∀ q∈ps',cV q.1)→(∀ v H'' t,Tup H'' v t→fN ks ts fs (cb ps') t→Fit (3+m) (bS m) t→aw p H' H''→R v H'')→ku (m+1) [.ref p,.ref b,.ref a',.int (((m+1:Nat):Int) - 1)] H' R E0:=fun a' ps' H' R w' s' l' n' k'=>by
    have e:((m+1:Nat):Int) - 1=(m:Int):=by omega
    rw [e]
    exact⟨p,b,a',ps',ks,ts,fs,rfl,w'.pot,RdV.went hb w'.same,ok,s',l',n',k'⟩
   refine⟨_,rfl,rfl,_,rfl,?_⟩
   by_cases r3:r=3
   ·refine ifT (by simp [r3]) ⟨_,rfl,_,rfl,_,rfl,_,rfl,_,_,rfl,rfl,?_⟩
    refine sub a ps H5 _ w5 (sc1 w5) hl hn fun v H6 t tv st ft w6=>⟨(by show 2≤sizeLine; decide),fun L hL=>?_⟩
    refine q _ _ (.node [.leaf "not",t]) (.node aa (.cons (.leaf _) (.cons (dk (al.tups (ac hL _)) tv) .nil))) (.not st) ?_ ((w5.trans w6).new hL _)
    refine(Fit.node (cp.cons ((Fit.wd _ (by simp)).mono (YO _) (YD _)) (cp.cons ft cp.nil))).mono (by omega) ?_
    rw [bS]; omega
   refine ifF (by simp [r3]) ⟨_,rfl,_,_,rfl,rfl,_,rfl,?_⟩
   refine gz ?body (fun _ h=>ifT rfl h) (fun _ h=>?other)
   case body=>
    refine⟨(by show 6≤sizeLine; decide),fun L hL=>⟨_,rfl,p,6,rfl,w5.pot.keep (ac hL _),by decide,by decide,fun r2 H6 r20 r21 p6 s6=>?_⟩⟩
    obtain⟨c,c3,ec⟩:=zo r2.toNat (by omega)
    have nL:L≠p:=Ne.symm (w5.ne hL)
    refine⟨L,_,r2,.int c,rfl,rfl,SqL.of (s6 _ _ nL aa),aH r20 ec,?_⟩
    have w6:=(w5.new hL (.lst [V.int 0,V.int 1,V.int 2,V.int 2,V.int 2,V.int 3])).mk1 p6 s6
    have conn:∀ wd:Str,wd="and"∨wd="or"→∀ (H7:Hp) (t1:Addr),H7 t1=none→aw p H H7→∀ (Qr:VK),(∀ l D2 ys H8,de H8 ys l→fm ks ts fs (cb ps) l→l.length≤3→(∀ t∈l,Fit (3+m) (bS m) t)→aw p (upd H7 t1 (.tup [.str wd])) H8→H8 D2=some (.lst ys)→Qr (.ref D2) H8)→
      xb (iP (tVar 5) fS) [some (.ref p),some (.ref b),some (.ref a),some (.int (m+1:Nat)),some (.int r),some (.int c),none,none,none] (upd H7 t1 (.tup [.str wd])) fun J H1=>∀ (cl:List (Str×Addr)) (C:Addr) (ex:List Addr) (s:Shared) (Hc:Hp),gj 1 J (du 0) (iQ (ku (m+1)) [] E0 (iP (tVar 1) (iP (tVar 2) (iP (tVar 3) (iP (tOp (rI0 fun i j=>V.int (i-j)) (tVar 4) (tC (V.int 1))) fS))))) [some (.ref p),some (.ref b),some (.ref a),some (.int (m+1:Nat)),some (.int r),some (.int c),none,none,none] H1 Qr:=by
     intro wd hwd H7 t1 ht1 w7 Qr kk
     have w8:=w7.new ht1 (.tup [.str wd])
     refine⟨_,rfl,c,rfl,by omega,by omega,fun cl C ex s0 Hc=>?_⟩
     have ec0:(c:Int).toNat=c:=by omega
     refine bi (c:Int).toNat (fun i ys H9=>aw p (upd H7 t1 (.tup [.str wd])) H9∧∃ l,de H9 ys l∧fm ks ts fs (cb ps) l∧l.length=i∧∀ t∈l,Fit (3+m) (bS m) t) (fun _ _=>True) ⟨aw.refl w8.pot,[],.nil,.nil,rfl,fun _ z=>nomatch z⟩ (by rw [ec0]; exact YE c3 (by decide))
      (fun i ys H9 hi _ _=>⟨(ut hi).1,fun x H' y=>⟨((ut hi).2 x H' y).1,trivial⟩⟩) (fun ys H9 _ _=>rR) ?_ ?_
     ·rintro i y ys H9 hi-yl ⟨w9,l,l1,l2,l3,l4⟩
      refine⟨_,rfl,_,rfl,_,rfl,_,rfl,_,_,rfl,rfl,?_⟩
      refine sub a ps H9 _ (w8.trans w9) (sc1 (w8.trans w9)) hl hn fun v H10 t tv st ft w10=>⟨w9.trans w10,l++[t],de.snoc (cE (bJ w9.pot w10.same) l1) tv,lH st l2,by rw [YY,l3]; rfl,fun u hu=>?_⟩
      rcases Y3.mp hu with hu | hu
      ·exact l4 u hu
      ·rw [YK.mp hu]; exact ft
     ·rintro ys H9 yl ⟨w9,l,l1,l2,l3,l4⟩ D2 hD2
      exact kk l D2 ys _ (cE (al.tups (ac hD2 _)) l1) l2 (by omega) l4 (w9.new hD2 _) aa
    refine⟨(by show 2≤sizeLine; decide),fun L2 hL2=>⟨_,rfl,_,_,rfl,rfl,(by decide:(0:Int)<2),?_⟩⟩
    have w7:=w6.new hL2 (.lst [.str "and",.str "or"])
    have fin:∀ wd:Str,wd="and"∨wd="or"→∀ t1,upd H6 L2 (.lst [.str "and",.str "or"]) t1=none→∀ l D2 ys H8,de H8 ys l→fm ks ts fs (cb ps) l→l.length≤3→(∀ t∈l,Fit (3+m) (bS m) t)→aw p (upd (upd H6 L2 (.lst [.str "and",.str "or"])) t1 (.tup [.str wd])) H8→H8 D2=some (.lst ys)→
      ∀ t2,H8 t2=none→rCatTT K (.ref t1) (.ref t2) (upd H8 t2 (.tup ys)) Q:=by
     intro wd hwd t1 ht1 l D2 ys H8 l1 l2 l3 l4 w8 eD t2 ht2
     have w9:=(w7.new ht1 (.tup [.str wd])).trans w8
     have s2:=ac ht2 (.tup ys)
     have e1:H8 t1=some (.tup [.str wd]):=bJ (w7.new ht1 (.tup [.str wd])).pot w8.same _ _ aa
     have yl:ys.length=l.length:=de.length l1
     refine lh (s2 _ _ e1) aa (YE (show 1+ys.length≤4 by omega) (by decide)) fun pp H9 e9 s9=>?_
     have s8:=s2.trans s9
     refine q _ _ (.node (.leaf wd::l)) (.node e9 (.cons (.leaf _) (cE (al.tups s8) l1))) (.conn hwd (by omega) l2) ?_ (w9.mk1 (w9.pot.keep s8) s8.x)
     refine(Fit.node (cp.cons ((Fit.wd wd (by rcases hwd with rfl | rfl <;> simp)).mono (YO _) (YD _)) (cp.all (n:=3) l4 l3))).mono (by omega) ?_
     rw [bS]; omega
    have hm2:r % 2=0∨r % 2=1:=by omega
    rcases hm2 with hm2 | hm2
    ·refine⟨L2,_,r % 2,.str "and",rfl,rfl,SqL.of aa,by rw [hm2]; rfl,(by show 1≤sizeLine; decide),fun t1 ht1=>?_⟩
     exact conn "and" (.inl rfl) _ t1 ht1 w7 _ fun l D2 ys H8 a1 a2 a3 a4 a5 a6=>⟨D2,ys,rfl,.inl ⟨SqL.of a6,fin "and" (.inl rfl) t1 ht1 l D2 ys H8 a1 a2 a3 a4 a5 a6⟩⟩
    ·refine⟨L2,_,r % 2,.str "or",rfl,rfl,SqL.of aa,by rw [hm2]; rfl,(by show 1≤sizeLine; decide),fun t1 ht1=>?_⟩
     exact conn "or" (.inr rfl) _ t1 ht1 w7 _ fun l D2 ys H8 a1 a2 a3 a4 a5 a6=>⟨D2,ys,rfl,.inl ⟨SqL.of a6,fin "or" (.inr rfl) t1 ht1 l D2 ys H8 a1 a2 a3 a4 a5 a6⟩⟩
   case other=>
    obtain⟨bs,ea,pa⟩:=(sc1 w5).ex
    have bl:(bs.map V.ref).length=ps.length:=by rw [YC,Paired.length pa]
    refine⟨_,rfl,a,_,rfl,.inl (SqL.of ea),rfl,_,rfl,?_⟩
    by_cases p3:ps.length=3
    ·exact ifT (by rw [bl,p3]; rfl) h
    refine ifF (by rw [bl]; simp; omega) ?_
    refine⟨(by show 3≤sizeLine; decide),fun L hL=>⟨_,rfl,p,3,rfl,w5.pot.keep (ac hL _),by decide,by decide,fun r2 H6 r20 r21 p6 s6=>?_⟩⟩
    have nL:L≠p:=Ne.symm (w5.ne hL)
    obtain⟨wd,hwd,ewd⟩:=xH ["all","all","some"] r20 r21
    refine⟨L,_,r2,.str wd,rfl,rfl,SqL.of (s6 _ _ nL aa),ewd,?_⟩
    have w6:=(w5.new hL (.lst ([("all":Str),"all","some"].map V.str))).mk1 p6 s6
    refine⟨(by show 7≤sizeLine; decide),fun L2 hL2=>⟨_,rfl,p,7,rfl,w6.pot.keep (ac hL2 _),by decide,by decide,fun r4 H7 r40 r41 p7 s7=>?_⟩⟩
    have nL2:L2≠p:=Ne.symm (w6.ne hL2)
    obtain⟨nm,hnm,enm⟩:=xH varMenu r40 r41
    refine⟨L2,_,r4,.str nm,rfl,rfl,SqL.of (s7 _ _ nL2 aa),enm,?_⟩
    have w7:=(w6.new hL2 (.lst (varMenu.map V.str))).mk1 p7 s7
    obtain⟨kB,tB,fB,tv',fv',eb1,nk1,ek1,_⟩:=fO.open (RdV.went hb w7.same)
    have ok4:=ok.k4
    have ok1:=ok.k1
    refine⟨_,rfl,b,_,0,.ref kB,rfl,rfl,SqT.of eb1,rfl,_,rfl,_,rfl,b,_,0,.ref kB,rfl,rfl,SqT.of eb1,rfl,kB,_,rfl,.inl (SqL.of ek1),?_⟩
    rw [YC]
    refine⟨p,_,rfl,p7,by omega,by omega,fun r5 H8 r50 r51 p8 s8=>?_⟩
    obtain⟨kd,hkd,ekd⟩:=xH ks r50 r51
    refine⟨kB,_,r5,.str kd,rfl,rfl,SqL.of (s8 _ _ nk1 ek1),ekd,?_⟩
    have w8:=w7.mk1 p8 s8
    refine⟨_,rfl,_,rfl,_,rfl,_,rfl,_,rfl,_,rfl,_,rfl,_,rfl,(by show 2≤sizeLine; decide),fun tp htp=>⟨(by show 1≤sizeLine; decide),fun L3 hL3=>?_⟩⟩
    have w9:=(w8.new htp (.tup [.str nm,.str kd])).new hL3 (.lst [.ref tp])
    obtain⟨bs,ea,pa⟩:=(sc1 w9).ex
    have bl2:(bs.map V.ref).length=ps.length:=by rw [YC,Paired.length pa]
    refine⟨a,L3,_,_,rfl,rfl,ea,aa,YE (show (bs.map V.ref).length+1≤4 by omega) (by decide),fun L4 hL4=>⟨_,rfl,_,_,rfl,rfl,?_⟩⟩
    have w10:=w9.new hL4 (.lst (bs.map V.ref++[.ref tp]))
    refine sub L4 (ps++[(nm,kd)]) _ _ w10 ⟨bs++[tp],by rw [Y1]; exact aa,?_⟩ (by rw [YY,XH]; omega) (fun z hz=>?_) fun v H11 t tv st ft w11=>⟨(by show 4≤sizeLine; decide),fun L5 hL5=>?_⟩
    ·exact dD (x:=tp) (y:=(nm,kd)) (F:=fun b (q:Str×Str)=>upd (upd (upd H8 tp (.tup [.str nm,.str kd])) L3 (.lst [.ref tp])) L4 (.lst (bs.map V.ref++[.ref tp])) b=some (.tup [.str q.1,.str q.2])) ((ac hL4 _) _ _ ((ac hL3 _) _ _ aa)) (Paired.mapP pa fun b q z=>(ac hL4 _) _ _ z)
    ·rcases Y3.mp hz with hz | hz
     ·exact hn z hz
     ·rw [YK.mp hz]; exact fQ nm hnm
    ·rw [oa] at st
     have hw:=wO wd hwd
     refine q _ _ (.node [.leaf wd,.leaf nm,.leaf kd,t]) (.node aa (.cons (.leaf _) (.cons (.leaf _) (.cons (.leaf _) (.cons (dk (al.tups (ac hL5 _)) tv) .nil))))) (.bind hw (fQ nm hnm) hkd st) ?_ ((w10.trans w11).new hL5 _)
     refine(Fit.node (cp.cons ((Fit.wd wd (by rcases hw with rfl | rfl <;> simp)).mono (YO _) (YD _)) (cp.cons ((Fit.nm (fQ nm hnm)).mono (YO _) (YD _)) (cp.cons ((Fit.nm (ok.kn2 kd hkd)).mono (YO _) (YD _)) (cp.cons ft cp.nil))))).mono (by omega) ?_
     have:=oN m
     rw [bS]; omega
  ·have atomS:∀ H',aw p H H'→spAtom [.ref p,.ref b,.ref a,.int 2] H' Q E0:=fun H' w'=>⟨p,b,a,ps,ks,ts,fs,rfl,w'.pot,RdV.went hb w'.same,ok,sc1 w',hl,hn,fun v H'' t tv st ft w''=>q _ _ t tv st (ft.mono (by omega) (oN n)) (w'.trans w'')⟩
   refine⟨_,rfl,rfl,_,rfl,?_⟩
   by_cases n0:n=0
   ·exact ifT (by simp [n0]) (ifT rfl ⟨_,rfl,_,rfl,_,rfl,atomS _ w1⟩)
   refine ifF (by simp; omega) ?_
   obtain⟨c0,c1,c2,ec,hc0,hc1,hc2⟩:=id w1.pot
   refine⟨_,rfl,p,_,2,.int c2,rfl,rfl,SqL.of ec,rfl,_,_,rfl,rfl,_,rfl,?_⟩
   by_cases c8:c2<8
   ·exact ifT (by simpa using c8) (ifT rfl ⟨_,rfl,_,rfl,_,rfl,atomS _ w1⟩)
   refine ifF (by simpa using c8) ⟨_,rfl,_,_,rfl,rfl,_,rfl,?_⟩
   by_cases r3:r<3
   ·obtain⟨bs,ea,pa⟩:=(sc1 w1).ex
    refine ifT (by simpa using r3) ⟨_,rfl,YO _,fun l hl'=>⟨a,l,bs.map V.ref,rfl,rfl,SqL.of (by rw [ae (af ea hl')]; exact ea),SqL.of aa,_,rfl,?_⟩⟩
    by_cases bn:(!(bs.map V.ref).isEmpty)=true
    ·exact ifT bn ⟨_,rfl,_,rfl,_,rfl,atomS _ (w1.new hl' _)⟩
    ·exact ifF bn (go _ _ ⟨rfl,w1.new hl' _,n0⟩)
   ·exact ifF (by simpa using r3) (ifF (by simp) (go _ _ ⟨rfl,w1,n0⟩))
theorem vM(F:ah K mg "_law_saying_in" bG lA1):Def P w K mg base "_law_saying_in" 6 lA1 (ku 0):=
 F.mk' (k:=5) zcf (fun vs H Q E h=>False.elim h) fun f cdv A outer s H vs Q E hr h=>False.elim h
theorem tE(F:ah K mg "_law_saying_in" bG lA1)(Z:Bl mg)(D_law_draw:Def P w K mg base "_law_draw" 1 lA5 spDraw)(D_law_atom:Def P w K mg base "_law_atom" 6 lA1 spAtom):∀ n,Def P w K mg base "_law_saying_in" (n+7) lA1 (spSin n)
 | 0=>jP F Z D_law_draw D_law_atom 0 (vM F)
 | n+1=>jP F Z D_law_draw D_law_atom (n+1) (tE F Z D_law_draw D_law_atom n)
end
theorem n6{H:Hp}{p a:Addr}{xs:List V}{ts:List Tr}(hp:bf H p)(h:LT H a xs)(r:fh H xs ts):a≠p:=by
 rcases h with h | h
 ·refine f8 hp h fun x y z q=>?_
  injection q with q
  subst q
  cases r with
  | cons f _=>cases f
 ·exact f8 hp h fun _ _ _ z=>nomatch z
mutual
theorem t9{H H':Hp}{p:Addr}(hp:bf H p)(s:av p H H'):∀ {v:V} {t:Tr},Mix H v t→Mix H' v t
 | _,_,.leaf x=>.leaf x
 | _,_,.node h r=>.node (h.mono fun o e=>s _ o (n6 hp h r) e) (fC hp s r)
theorem fC{H H':Hp}{p:Addr}(hp:bf H p)(s:av p H H'):∀ {v:List V} {t:List Tr},fh H v t→fh H' v t
 | _,_,.nil=>.nil
 | _,_,.cons a r=>.cons (t9 hp s a) (fC hp s r)
end
theorem fh.snoc{H:Hp}{x:V}{y:Tr}:∀ {v:List V} {t:List Tr},fh H v t→Mix H x y→fh H (v++[x]) (t++[y])
 | _,_,.nil,h=>.cons h .nil
 | _,_,.cons a r,h=>.cons a (fh.snoc r h)
theorem o5:∀ ts:List Tr,ts.length≤szA ts
 | []=>YD _
 | t::ts=>by rw [szA,YR]; have:=o5 ts; omega
theorem oZ{t:Tr}:∀ {ts:List Tr},t∈ts→sz t≤szA ts
 | x::r,h=>by
  rw [szA]
  rcases YM.mp h with rfl | h
  ·omega
  ·have:=oZ h; omega
section
abbrev d7:Stmt:=top 56
theorem zcg:ai lB3 lB3 (ag d7):=by walk_at "F"
inductive spSaying(vs:List V)(H:Hp)(Q:VK)(e3_:XK):Prop | mk (p b:Addr) (ks:List Str) (ts:List aq) (fs:List ao) (_:vs=[.ref p,.ref b,.int 4]) (_:bf H p) (_:fO H p b ks ts fs) (_:aU ks ts fs) (_:∀ v H' t,Tup H' v t→fN ks ts fs (fun _=>none) t→Fit 7 20000 t→aw p H H'→Q v H')
theorem qw(F:ah K mg "_law_saying" d7 lB3)(Z:Bl mg)(D_law_saying_in:Def P w K mg base "_law_saying_in" (4+7) lA1 (spSin 4)):Def P w K mg base "_law_saying" 12 lB3 spSaying:=by
 have SC:=zcg
 refine F.mk' (k:=11) zcg (fun vs H Q E h=>?_) (fun f cdv A outer s H vs Q E hr h=>?_)
 ·obtain⟨p,b,ks,ts,fs,rfl,_⟩:=h
  rfl
 ·obtain⟨p,b,ks,ts,fs,rfl,hp,hb,ok,q⟩:=h
  refine'⟨_,?dv,?_⟩
  case dv=>(walk_at "S2")
  obtain⟨x0,x1,x2,ep,ha,hb0,hb1⟩:=id hp
  refine⟨_,rfl,p,_,2,2,rfl,rfl,ep,rfl,?_⟩
  generalize hHA:upd H p (.lst (List.set [V.int x0,V.int x1,V.int x2] 2 (V.int 40)))=HA
  have wA:aw p H HA:=⟨⟨x0,x1,40,by rw [← hHA]; exact aa,ha,hb0,hb1⟩,by rw [← hHA]; exact av.upd _ _ _⟩
  refine⟨_,rfl,_,rfl,YO _,fun L hL=>⟨_,rfl,?_⟩⟩
  have w1:=wA.new hL (.lst [])
  exact⟨p,b,L,[],ks,ts,fs,rfl,w1.pot,RdV.went hb w1.same,ok,⟨[],aa,.nil⟩,YO _,(fun _ z=>nomatch z),fun v H' t tv st ft w'=>q v H' t tv st (ft.mono (by decide) (by decide)) (w1.trans w')⟩
abbrev eV:Stmt:=top 57
theorem zch:ai ["_law_pot_here","_law_thing","_law_made"] lB2 (ag eV):=by walk_at "F"
inductive spAs(n:Nat)(vs:List V)(H:Hp)(Q:VK)(e3_:XK):Prop | mk (p:Addr) (v:V) (t:Tr) (_:vs=[.ref p,v]) (_:bf H p) (_:Tup H v t) (_:dep t≤n) (_:sz t≤20000) (_:∀ u H',Mix H' u t→aw p H H'→Q u H')
def sf:Nat→Sp
 | 0=>fun _ _ _ _=>False
 | n+1=>spAs n
theorem se{m:Nat}{vs:List V}{H:Hp}{Q:VK}{E:XK}(h:spAs m vs H Q E):sf (m+1) vs H Q E:=h
theorem mi(F:ah K mg "_law_as" eV lB2)(Z:Bl mg)(D_law_draw:Def P w K mg base "_law_draw" 1 lA5 spDraw)(n:Nat)(D_law_as:Def P w K mg base "_law_as" (n+1) lB2 (sf n)):Def P w K mg base "_law_as" (n+2) lB2 (spAs n):=by
 have SC:=zch
 refine F.mk' (k:=n+1) zch (fun vs H Q E h=>?_) (fun f cdv A outer s H vs Q E hr h=>?_)
 ·obtain⟨p,v,t,rfl,_⟩:=h
  rfl
 ·obtain⟨p,v,t,rfl,hp,ht,hn,hz,q⟩:=h
  refine'⟨_,?dv,?_⟩
  case dv=>(have:=aj 2 263 7 34; have:=aj 12 265 66 76; have:=bB 265 4 77 1 ["_law_one","_law_pot_here","_law_thing","_law_made"]; walk_at "S2")
  cases ht with
  | leaf x=>exact⟨_,rfl,_,_,_,rfl,.str _,gw K,true,rfl,ifT rfl ⟨_,rfl,q _ H (.leaf x) (aw.refl hp)⟩⟩
  | node h r=>
   rename_i a xs ts
   have hd:dep (.node ts)=1+iB ts:=rfl
   rw [hd] at hn
   rw [sz] at hz
   obtain⟨m,rfl⟩:∃ m,n=m+1:=⟨n-1,by omega⟩
   have rl:=r.length
   have zl:=o5 ts
   refine⟨_,rfl,_,_,false,rfl,.tup h,rfl,false,rfl,dz ?_⟩
   refine⟨_,rfl,a,rfl,⟨_,SqT.of h⟩,fun cl C ex s0 Hc=>?_⟩
   refine bi xs.length (fun i ys H1=>aw p H H1∧fh H1 ys (ts.take i)) (fun i y=>xs[i]? = some y) ⟨aw.refl hp,.nil⟩ (YE (show xs.length≤20000 by omega) (by decide))
    (fun i ys H1 hi _ h1=>kZ (SqT.of (bJ hp h1.1.same _ _ h)) hi) (fun ys H1 _ h1=>gr (SqT.of (bJ hp h1.1.same _ _ h))) ?_ ?_
   ·rintro i y ys H1 hi hy yl ⟨w1,m1⟩
    obtain⟨t,ht,tt⟩:=r.get hy
    have dt:=jn (YU ht)
    have st:=oZ (YU ht)
    refine⟨_,rfl,_,rfl,?_⟩
    refine se (E:=E0) ⟨p,y,t,rfl,w1.pot,dk (bJ hp w1.same) tt,by omega,by omega,fun u H2 mu w2=>⟨w1.trans w2,?_⟩⟩
    rw [Y7,ht]
    exact fh.snoc (fC w1.pot w2.same m1) mu
   ·rintro ys H1 yl ⟨w1,m1⟩ D hD
    rw [rl,Y8] at m1
    have w2:=w1.new hD (.lst ys)
    have nD:D≠p:=Ne.symm (w1.ne hD)
    refine⟨_,rfl,_,rfl,D,ys,rfl,.inl ⟨SqL.of aa,fun t2 ht2=>⟨(by show 2≤sizeLine; decide),fun L hL=>?_⟩⟩⟩
    have w3:=(w2.new ht2 (.tup ys)).new hL (.lst [.ref D,.ref t2])
    have nL:L≠p:=Ne.symm ((w2.new ht2 (.tup ys)).ne hL)
    have nt:t2≠p:=Ne.symm (w2.ne ht2)
    refine⟨_,rfl,p,2,rfl,w3.pot,by decide,by decide,fun r2 H3 r0 r1 p3 s3=>?_⟩
    have w4:=w3.mk1 p3 s3
    have eD:H3 D=some (.lst ys):=s3 _ _ nD ((ac hL _) _ _ ((ac ht2 _) _ _ aa))
    have et:H3 t2=some (.tup ys):=s3 _ _ nt ((ac hL _) _ _ aa)
    have m3:fh H3 ys ts:=fC w3.pot s3 (dZ (ac hL _) (dZ (ac ht2 _) (dZ (ac hD _) m1)))
    have hc:r2=0∨r2=1:=by omega
    rcases hc with rfl | rfl
    ·exact⟨L,_,0,.ref D,rfl,rfl,SqL.of (s3 _ _ nL aa),rfl,q _ _ (.node (.inl eD) m3) w4⟩
    ·exact⟨L,_,1,.ref t2,rfl,rfl,SqL.of (s3 _ _ nL aa),rfl,q _ _ (.node (.inr et) m3) w4⟩
theorem ym(F:ah K mg "_law_as" eV lB2):Def P w K mg base "_law_as" 1 lB2 (sf 0):=
 F.mk' (k:=0) zch (fun vs H Q E h=>False.elim h) fun f cdv A outer s H vs Q E hr h=>False.elim h
theorem wZ(F:ah K mg "_law_as" eV lB2)(Z:Bl mg)(D_law_draw:Def P w K mg base "_law_draw" 1 lA5 spDraw):∀ n,Def P w K mg base "_law_as" (n+2) lB2 (spAs n)
 | 0=>mi F Z D_law_draw 0 (ym F)
 | n+1=>mi F Z D_law_draw (n+1) (wZ F Z D_law_draw n)
end
theorem tW{kt tt ft:Addr}:(flF kt tt ft).lookup ("kinds":Str)=none:=uC (by decide +kernel) (by decide +kernel) (by decide +kernel)
theorem wc{kt tt ft:Addr}:(flF kt tt ft).lookup ("ties":Str)=none:=uC (by decide +kernel) (by decide +kernel) (by decide +kernel)
theorem gv{kt tt ft:Addr}:(flF kt tt ft).lookup ("functions":Str)=none:=uC (by decide +kernel) (by decide +kernel) (by decide +kernel)
theorem aQ.same{C:Addr}{H H':Hp}{x:Addr}{ks:List Str}{ts:List aq}{fs:List ao}(h:aQ C H x ks ts fs)(s:al H H'):aQ C H' x ks ts fs:=h.keep (fun o e=>s x o e) (al.tups s)
theorem iH{α β:Type}{f:α→β}:∀ {l:List α},(l.map f).Nodup→∀ {x y:α},x∈l→y∈l→f x=f y→x=y
 | [],_,_,_,h,_,_=>nomatch h
 | a::r,n,x,y,hx,hy,e=>by
  rw [Y9,WA] at n
  rcases YM.mp hx with ex | ux <;> rcases YM.mp hy with ey | uy
  ·rw [ex,ey]
  ·rw [ex] at e
   exact absurd (XR.mpr ⟨y,uy,e.symm⟩) n.1
  ·rw [ey] at e
   exact absurd (XR.mpr ⟨x,ux,e⟩) n.1
  ·exact iH n.2 ux uy e
theorem vn{α:Type}{nm:α→Str}{G:α→V→Prop}{l:List α}{i:Nat}{t:α}{kvs:List (Key×V)}{v:V}(nd:(l.map nm).Nodup)(ht:l[i]? = some t)(h:∀ u∈l.take i,∃ y,bj kvs (.inr (nm u))=some y∧G u y)(g:G t v):
  ∀ u∈l.take (i+1),∃ y,bj (cg kvs (.inr (nm t)) v) (.inr (nm u))=some y∧G u y:=fun u hu=>by
 rw [eK]
 by_cases e:nm u=nm t
 ·have : u=t:=iH nd (List.mem_of_mem_take hu) (YU ht) e
  subst this
  exact⟨v,by rw [if_pos rfl],g⟩
 ·rw [if_neg (fun z=>e (Sum.inr.inj z))]
  rw [Y7,ht] at hu
  rcases Y3.mp hu with hu | hu
  ·exact h u hu
  ·have : u=t:=(Option.some.inj (Option.mem_toList.mp hu)).symm
   exact absurd (by rw [this]) e
theorem qe{α:Type}{nm:α→Str}{l:List α}{i:Nat}{t:α}{kvs:List (Key×V)}{v:V}(ht:l[i]? = some t)(h:∀ z:Str,(∀ u∈l.take i,nm u≠z)→bj kvs (.inr z)=none):
  ∀ z:Str,(∀ u∈l.take (i+1),nm u≠z)→bj (cg kvs (.inr (nm t)) v) (.inr z)=none:=fun z hz=>by
 rw [Y7,ht] at hz
 rw [eK,if_neg (fun e=>hz t (by simp) (Sum.inr.inj e).symm)]
 exact h z fun u hu=>hz u (XC _ hu)
theorem oC{α:Type}{n:Nat}{K:WB}{σ:St}{H:Hp}{l:Addr}{tv:List V}{as:List α}{nm:α→Str}{G:α→V→Prop}{g:TG}{tk te:TE}{Q:VK}(hl:H l=some (.lst tv))(tl:tv.length=as.length)(nd:(as.map nm).Nodup)(h8:as.length≤8)
  (hs:∀ (C:St→V→V→Hp→Prop) (i:Nat) (y:V) (a:α) (vs:List (Option V)),vs.length=n→tv[i]? = some y→as[i]? = some a→(∀ vs' v,List.length vs'=n→G a v→C (vs'++σ) (.str (nm a)) v H)→g y (vs++σ) H fun σ2 H2=>tk σ2 H2 fun k H3=>te σ2 H3 fun v H4=>C σ2 k v H4)
  (hQ:∀ D kvs,H D=none→(∀ t∈as,∃ y,bj kvs (.inr (nm t))=some y∧G t y)→(∀ z:Str,(∀ t∈as,nm t≠z)→bj kvs (.inr z)=none)→Q (.ref D) (upd H D (.dK kvs))):iJ n (Itl K l) g tk te σ H Q:=by
 refine oB (a:=l) (xs:=tv) (YE (show tv.length≤8 by omega) (by decide)) (fun i kvs H2=>H2=H∧kvs.length≤i∧(∀ t∈as.take i,∃ y,bj kvs (.inr (nm t))=some y∧G t y)∧∀ z:Str,(∀ t∈as.take i,nm t≠z)→bj kvs (.inr z)=none) ⟨rfl,YD _,(fun _ z=>nomatch z),fun _ _=>rfl⟩ (fun i kvs H2 _ ⟨e,n,_⟩=>⟨by rw [e]; exact SqL.of hl,n⟩) ?_ ?_
 ·rintro R i y kvs H2 vs hv hy ⟨rfl,hn,hk,hz⟩ fin
  obtain⟨a,ha⟩:∃ a,as[i]? = some a:=⟨as[i]'(by have:=(YV.mp hy).1; omega),List.getElem?_eq_getElem _⟩
  exact hs (fun σ2 y v H4=>∃ k,y=kV k∧R σ2 H4 (cg kvs k v)) i y a vs hv hy ha fun vs' v hv' g=>⟨.inr (nm a),rfl,fin vs' _ _ hv' ⟨rfl,YE (bz _ _ _) (by omega),vn (nm:=nm) (G:=G) nd ha hk g,qe ha hz⟩⟩
 ·rintro kvs H2 ⟨rfl,_,hk,hz⟩ D hD
  rw [tl,Y8] at hk hz
  exact hQ D kvs hD hk hz
theorem xk{vs:List (Option V)}(h:vs.length=2):∃ v0 v1,vs=[v0,v1]:=by
 match vs,h with
 | [a,b],_=>exact⟨a,b,rfl⟩
theorem lG{vs:List (Option V)}(h:vs.length=3):∃ v0 v1 v2,vs=[v0,v1,v2]:=by
 match vs,h with
 | [a,b,c],_=>exact⟨a,b,c,rfl⟩
theorem xl{H:Hp}{tv:List V}{ts:List aq}{i:Nat}{y:V}{t:aq}(rt:RdA Any H tv (ts.map fG))(hy:tv[i]? = some y)(ht:ts[i]? = some t):∃ py pp,y=.ref py∧H py=some (.tup [.str t.nm,.ref pp])∧H pp=some (.tup (t.ps.map V.str)):=by
 obtain⟨d,hd,rd⟩:=rt.getV hy
 rw [YZ,ht] at hd
 cases hd
 obtain⟨py,px,rfl,_,hpy,hpx⟩:=RdV.tuple_inv rd
 obtain⟨a1,a2,rfl,r1,r2⟩:=hpx.two
 obtain rfl:=r1.str_inv
 obtain⟨pp,ppx,rfl,_,hpp,hps⟩:=r2.tuple_inv
 obtain rfl:=hps.strs_inv
 exact⟨py,pp,rfl,hpy,hpp⟩
theorem uw{H:Hp}{tv:List V}{ts:List ao}{i:Nat}{y:V}{t:ao}(rt:RdA Any H tv (ts.map ge))(hy:tv[i]? = some y)(ht:ts[i]? = some t):∃ py pp,y=.ref py∧H py=some (.tup [.str t.nm,.ref pp,.str t.kd])∧H pp=some (.tup (t.ps.map V.str)):=by
 obtain⟨d,hd,rd⟩:=rt.getV hy
 rw [YZ,ht] at hd
 cases hd
 obtain⟨py,px,rfl,_,hpy,hpx⟩:=RdV.tuple_inv rd
 obtain⟨a1,a2,a3,rfl,r1,r2,r3⟩:=hpx.three
 obtain rfl:=r1.str_inv
 obtain rfl:=r3.str_inv
 obtain⟨pp,ppx,rfl,_,hpp,hps⟩:=r2.tuple_inv
 obtain rfl:=hps.strs_inv
 exact⟨py,pp,rfl,hpy,hpp⟩
theorem gR{ts:List aq}{z:Str}{ps:List Str}(h:eM ts z=some ps):∃ t∈ts,t.nm=z∧t.ps=ps:=by
 unfold eM at h
 obtain⟨t,ht,e⟩:=YS.mp h
 exact⟨t,X7 ht,by simpa using List.find?_some ht,e⟩
theorem jF{ts:List aq}{z:Str}(h:eM ts z=none):∀ t∈ts,t.nm≠z:=fun t ht e=>by
 unfold eM at h
 rw [Option.map_eq_none_iff,List.find?_eq_none] at h
 exact h t ht (by simpa using e)
theorem ig{ts:List ao}{z k:Str}{ps:List Str}(h:fJ ts z=some (ps,k)):∃ t∈ts,t.nm=z∧t.ps=ps∧t.kd=k:=by
 unfold fJ at h
 obtain⟨t,ht,e⟩:=YS.mp h
 cases e
 exact⟨t,X7 ht,by simpa using List.find?_some ht,rfl,rfl⟩
theorem jU{ts:List ao}{z:Str}(h:fJ ts z=none):∀ t∈ts,t.nm≠z:=fun t ht e=>by
 unfold fJ at h
 rw [Option.map_eq_none_iff,List.find?_eq_none] at h
 exact h t ht (by simpa using e)
theorem wH(a:Addr):(fa1 a).length<1000:=Xz (aT _ _ _) (by decide)
theorem wF(a b:Addr):(fa2 a b).length<1000:=by
 have h1:=aT (Str.ofString "known_kinds") (.ref a) []
 have h2:=aT (Str.ofString "tie_places") (.ref b) (fa1 a)
 show (aW (Str.ofString "tie_places") (.ref b) (fa1 a)).length<1000
 have h3:(fa1 a).length≤1:=h1
 omega
theorem wE(a b c:Addr):(fa3 a b c).length<1000:=by
 have h1:(fa1 a).length≤1:=aT (Str.ofString "known_kinds") (.ref a) []
 have h2:(fa2 a b).length≤(fa1 a).length+1:=aT (Str.ofString "tie_places") (.ref b) (fa1 a)
 have h3:(fa3 a b c).length≤(fa2 a b).length+1:=aT (Str.ofString "function_places") (.ref c) (fa2 a b)
 omega
section
abbrev b7:Stmt:=em (top 18) 0
theorem zci:ai lE1 lE1 (ag b7):=by walk_at "F"
inductive spTabInit(C CT:Addr)(vs:List V)(H:Hp)(Q:VK)(e3_:XK):Prop | mk (x dx g:Addr) (ks:List Str) (ts:List aq) (fs:List ao) (_:vs=[.ref x,.ref g]) (_:H x=some (.ins CT dx [])) (_:aQ C H g ks ts fs) (_:aU ks ts fs) (_:∀ H',lp CT H' x ks ts fs→av x H H'→Q .non H')
theorem nW{f C CT f1 f2 f3:Addr}{fd fd1 fd2 fd3:FuncData}(F:Fun K "__init__" "SignTable.__init__" b7 f fd)(Z:Bl mg)(T:ClS K C)(TT:ClT K CT)
  (m_kinds:rc K C "kinds" f1) (G_kinds:cC P w K mg base CX0 1 f1 fd1 lC3 (spTellK C)) (b_kinds:ce K fd1 lC3 [])
  (m_ties:rc K C "ties" f2) (G_ties:cC P w K mg base CX0 1 f2 fd2 lC3 (spTellT C)) (b_ties:ce K fd2 lC3 [])
  (m_functions:rc K C "functions" f3) (G_functions:cC P w K mg base CX0 1 f3 fd3 lC3 (spTellF C)) (b_functions:ce K fd3 lC3 []) :
  cC P w K mg base CX0 2 f fd lE1 (spTabInit C CT):=by
 have SC:=zci
 refine F.ok zci (fun vs H Q E h=>?_) (fun cdv A outer s H vs Q E hr h=>?_)
 ·obtain⟨x,dx,g,ks,ts,fs,rfl,_⟩:=h
  rfl
 ·obtain⟨x,dx,g,ks,ts,fs,rfl,hx,hS,ok,q⟩:=h
  refine'⟨_,?dv,?_⟩
  case dv=>(have:=bB 41 26 73 2 ["name","places","self","signs"]; have:=bB 42 31 89 3 lE3; have:=bB 43 30 86 3 lE3; walk_at "S2")
  obtain⟨dg,_,_,_,_,_,g2,_⟩:=id hS
  have gx:g≠x:=by rintro rfl; rw [hx] at g2; cases g2
  have sl:=ok.sl
  have nd:=List.nodup_append.mp ok.sn
  have tx:∀ {G:Hp} {c:Addr} {o:HO},G x=some (.ins CT dx [])∨(∃ fl,G x=some (.ins CT dx fl))→gN G (upd G x o):=fun {G c o} h p xs e=>by
   rw [ae (fun z=>by rcases h with h | ⟨fl,h⟩ <;> (rw [z,h] at e; cases e))]; exact e
  refine⟨_,rfl,g,dg,_,rfl,g2,tW,g,ks,ts,fs,rfl,hS,fun a ha=>?_⟩
  have s1:=ac ha (.lst (ks.map V.str))
  refine⟨_,rfl,x,CT,dx,_,rfl,s1 _ _ hx,TT.cl,TT.n1,by decide,?_⟩
  have nax:a≠x:=by rintro rfl; rw [hx] at ha; cases ha
  have S1:av x H (upd (upd H a (.lst (ks.map V.str))) x (.ins CT dx (aW "known_kinds" (.ref a) []))):=s1.x.trans (av.upd _ _ _)
  have a1:(upd (upd H a (.lst (ks.map V.str))) x (.ins CT dx (aW "known_kinds" (.ref a) []))) a=some (.lst (ks.map V.str)):=by rw [ae nax]; exact aa
  have x1:(upd (upd H a (.lst (ks.map V.str))) x (.ins CT dx (aW "known_kinds" (.ref a) []))) x=some (.ins CT dx (fa1 a)):=aa
  have gS1:aQ C (upd (upd H a (.lst (ks.map V.str))) x (.ins CT dx (aW "known_kinds" (.ref a) []))) g ks ts fs:=(hS.same s1).keep (fun o e=>av.upd x _ _ g o gx e) (tx (c:=a) (.inl (s1 _ _ hx)))
  generalize (upd (upd H a (.lst (ks.map V.str))) x (.ins CT dx (aW "known_kinds" (.ref a) [])))=H1 at S1 a1 x1 gS1
  obtain⟨dg1,_,_,_,_,_,g21,_⟩:=id gS1
  refine⟨_,rfl,g,dg1,_,rfl,g21,wc,g,ks,ts,fs,rfl,gS1,fun l tv hl rt=>⟨l,rfl,⟨_,SqL.of aa⟩,?_⟩⟩
  intro cl C1 ex s0 Hc
  refine oC (K:=K) (nm:=aq.nm) (as:=ts) (G:=fun t y=>∃ q,y=.ref q∧(upd H1 l (.lst tv)) q=some (.tup (t.ps.map V.str))) aa (by rw [rt.length,YC]) nd.1 (by omega) (fun C i y a vs hv hy ha fin=>?_) fun b tp hb hk hkn=>?_
  ·obtain⟨v0,v1,rfl⟩:=xk hv
   obtain⟨py,pp,rfl,h1,h2⟩:=xl (rt.same (ac hl _)) hy ha
   exact⟨py,_,rfl,SqT.of h1,rfl,_,_,rfl,_,_,rfl,rfl,_,rfl,_,rfl,fin [some (.str a.nm),some (.ref pp)] _ rfl ⟨pp,rfl,h2⟩⟩
  have s2:=(ac hl (.lst tv)).trans (ac hb (.dK tp))
  have b2:(upd (upd H1 l (.lst tv)) b (.dK tp)) b=some (.dK tp):=aa
  have hk2:∀ t∈ts,∃ q,bj tp (.inr t.nm)=some (.ref q)∧(upd (upd H1 l (.lst tv)) b (.dK tp)) q=some (.tup (t.ps.map V.str)):=fun t ht=>by
   obtain⟨y,e1,q',rfl,e2⟩:=hk t ht
   exact⟨q',e1,ac hb _ _ _ e2⟩
  generalize (upd (upd H1 l (.lst tv)) b (.dK tp))=G2 at s2 b2 hk2
  refine⟨_,rfl,x,CT,dx,_,rfl,s2 _ _ x1,TT.cl,TT.n2,wH _,?_⟩
  have nbx:b≠x:=by rintro rfl; rw [s2 _ _ x1] at b2; cases b2
  have T2:gN G2 (upd G2 x (.ins CT dx (aW "tie_places" (.ref b) (fa1 a)))):=tx (c:=a) (.inr ⟨_,s2 _ _ x1⟩)
  have S2:av x H1 (upd G2 x (.ins CT dx (aW "tie_places" (.ref b) (fa1 a)))):=s2.x.trans (av.upd _ _ _)
  have x2:(upd G2 x (.ins CT dx (aW "tie_places" (.ref b) (fa1 a)))) x=some (.ins CT dx (fa2 a b)):=aa
  have b2':(upd G2 x (.ins CT dx (aW "tie_places" (.ref b) (fa1 a)))) b=some (.dK tp):=by rw [ae nbx]; exact b2
  have gS2:aQ C (upd G2 x (.ins CT dx (aW "tie_places" (.ref b) (fa1 a)))) g ks ts fs:=(gS1.same s2).keep (fun o e=>av.upd x _ _ g o gx e) T2
  generalize (upd G2 x (.ins CT dx (aW "tie_places" (.ref b) (fa1 a))))=H2 at T2 S2 x2 b2' gS2
  obtain⟨dg2,_,_,_,_,_,g22,_⟩:=id gS2
  refine⟨_,rfl,g,dg2,_,rfl,g22,gv,g,ks,ts,fs,rfl,gS2,fun l3 fv hl3 rf=>⟨l3,rfl,⟨_,SqL.of aa⟩,?_⟩⟩
  intro cl C1 ex s0 Hc
  refine oC (K:=K) (nm:=ao.nm) (as:=fs) (G:=fun t y=>∃ q,y=.ref q∧(upd H2 l3 (.lst fv)) q=some (.tup (t.ps.map V.str))) aa (by rw [rf.length,YC]) nd.2.1 (by omega) (fun C i y a vs hv hy ha fin=>?_) fun c fp hc hk3 hfn=>?_
  ·obtain⟨v0,v1,v2,rfl⟩:=lG hv
   obtain⟨py,pp,rfl,h1,h2⟩:=uw (rf.same (ac hl3 _)) hy ha
   exact⟨py,_,rfl,SqT.of h1,rfl,_,_,rfl,_,_,rfl,_,_,rfl,rfl,_,rfl,_,rfl,fin [some (.str a.nm),some (.ref pp),some (.str a.kd)] _ rfl ⟨pp,rfl,h2⟩⟩
  have s3:=(ac hl3 (.lst fv)).trans (ac hc (.dK fp))
  have c3:(upd (upd H2 l3 (.lst fv)) c (.dK fp)) c=some (.dK fp):=aa
  have hk3':∀ t∈fs,∃ q,bj fp (.inr t.nm)=some (.ref q)∧(upd (upd H2 l3 (.lst fv)) c (.dK fp)) q=some (.tup (t.ps.map V.str)):=fun t ht=>by
   obtain⟨y,e1,q',rfl,e2⟩:=hk3 t ht
   exact⟨q',e1,ac hc _ _ _ e2⟩
  generalize (upd (upd H2 l3 (.lst fv)) c (.dK fp))=G3 at s3 c3 hk3'
  refine⟨_,rfl,x,CT,dx,_,rfl,s3 _ _ x2,TT.cl,TT.n3,wF _ _,?_⟩
  have ncx:c≠x:=by rintro rfl; rw [s3 _ _ x2] at c3; cases c3
  have T3:gN G3 (upd G3 x (.ins CT dx (aW "function_places" (.ref c) (fa2 a b)))):=tx (c:=a) (.inr ⟨_,s3 _ _ x2⟩)
  have S3:av x H2 (upd G3 x (.ins CT dx (aW "function_places" (.ref c) (fa2 a b)))):=s3.x.trans (av.upd _ _ _)
  have x3:(upd G3 x (.ins CT dx (aW "function_places" (.ref c) (fa2 a b)))) x=some (.ins CT dx (fa3 a b c)):=aa
  have c3':(upd G3 x (.ins CT dx (aW "function_places" (.ref c) (fa2 a b)))) c=some (.dK fp):=by rw [ae ncx]; exact c3
  have gS3:aQ C (upd G3 x (.ins CT dx (aW "function_places" (.ref c) (fa2 a b)))) g ks ts fs:=(gS2.same s3).keep (fun o e=>av.upd x _ _ g o gx e) T3
  generalize (upd G3 x (.ins CT dx (aW "function_places" (.ref c) (fa2 a b))))=H3 at T3 S3 x3 c3' gS3
  obtain⟨dg3,_,_,_,_,_,g23,_⟩:=id gS3
  refine⟨_,rfl,g,dg3,_,rfl,g23,gv,g,ks,ts,fs,rfl,gS3,fun l4 fv4 hl4 rf4=>⟨l4,rfl,⟨_,SqL.of aa⟩,?_⟩⟩
  intro cl C1 ex s0 Hc
  refine oC (K:=K) (nm:=ao.nm) (as:=fs) (G:=fun t y=>y=.str t.kd) aa (by rw [rf4.length,YC]) nd.2.1 (by omega) (fun C i y a vs hv hy ha fin=>?_) fun d fk hd hk4 _=>?_
  ·obtain⟨v0,v1,v2,rfl⟩:=lG hv
   obtain⟨py,pp,rfl,h1,h2⟩:=uw (rf4.same (ac hl4 _)) hy ha
   exact⟨py,_,rfl,SqT.of h1,rfl,_,_,rfl,_,_,rfl,_,_,rfl,rfl,_,rfl,_,rfl,fin [some (.str a.nm),some (.ref pp),some (.str a.kd)] _ rfl rfl⟩
  have s4:=(ac hl4 (.lst fv4)).trans (ac hd (.dK fk))
  have d4:(upd (upd H3 l4 (.lst fv4)) d (.dK fk)) d=some (.dK fk):=aa
  generalize (upd (upd H3 l4 (.lst fv4)) d (.dK fk))=G4 at s4 d4
  refine⟨_,rfl,x,CT,dx,_,rfl,s4 _ _ x3,TT.cl,TT.n4,wE _ _ _,?_⟩
  have ndx:d≠x:=by rintro rfl; rw [s4 _ _ x3] at d4; cases d4
  have T4:gN G4 (upd G4 x (.ins CT dx (aW "function_kinds" (.ref d) (fa3 a b c)))):=tx (c:=a) (.inr ⟨_,s4 _ _ x3⟩)
  have S4:av x H3 (upd G4 x (.ins CT dx (aW "function_kinds" (.ref d) (fa3 a b c)))):=s4.x.trans (av.upd _ _ _)
  have T34:gN H3 (upd G4 x (.ins CT dx (aW "function_kinds" (.ref d) (fa3 a b c)))):=fun p xs e=>T4 p xs (s4 _ _ e)
  have T24:gN H2 (upd G4 x (.ins CT dx (aW "function_kinds" (.ref d) (fa3 a b c)))):=fun p xs e=>T34 p xs (T3 p xs (s3 _ _ e))
  refine q _ ⟨dx,a,b,c,d,tp,fp,fk,aa,S4 _ _ nax (S3 _ _ nax (S2 _ _ nax a1)),S4 _ _ nbx (S3 _ _ nbx b2'),S4 _ _ ncx c3',by rw [ae ndx]; exact d4,fun z ps e=>?_,fun z e=>hkn z (jF e),fun z ps k e=>?_,fun z e=>hfn z (jU e)⟩ (S1.trans (S2.trans (S3.trans S4)))
  ·obtain⟨t,ht,rfl,rfl⟩:=gR e
   obtain⟨q',e1,e2⟩:=hk2 t ht
   exact⟨q',e1,T24 _ _ (T2 _ _ e2)⟩
  ·obtain⟨t,ht,rfl,rfl,rfl⟩:=ig e
   obtain⟨q',e1,e2⟩:=hk3' t ht
   obtain⟨y,e3,rfl⟩:=hk4 t ht
   exact⟨q',e1,T34 _ _ (T3 _ _ e2),e3⟩
end
theorem d5:∀ ds:List PyData,ds.length≤YG ds
 | []=>YO _
 | d::ds=>by rw [YG,YR]; have:=d5 ds; omega
theorem gl:∀ {ds:List PyData} {i:Nat} {d:PyData},ds[i]? = some d→d.weight<YG ds
 | d::ds,0,_,e=>by cases e; rw [YG]; omega
 | _::ds,i+1,d,e=>by have:=gl (ds:=ds) (i:=i) e; rw [YG]; omega
mutual
theorem iX:∀ {d:PyData},d.weight≤100000→dJ d=true
 | .str x,h=>decide_eq_true h
 | .list xs,h=>by
  rw [Y4] at h
  rw [dJ,gX h,decide_eq_true (YE (d5 xs) h)]; rfl
 | .tuple xs,h=>by
  rw [Y4] at h
  rw [dJ,gX h,decide_eq_true (YE (d5 xs) h)]; rfl
 | .none,_=>rfl
 | .bool _,_=>rfl
 | .int _,_=>rfl
 | .dict _,_=>rfl
theorem gX:∀ {ds:List PyData},YG ds≤100000→bW ds=true
 | [],_=>rfl
 | d::ds,h=>by
  rw [YG] at h
  rw [bW,iX (show d.weight≤100000 by omega),gX (show YG ds≤100000 by omega)]; rfl
end
mutual
def trD:PyData→Tr
 | .str x=>.leaf x
 | .list xs=>.node (iO xs)
 | .tuple xs=>.node (iO xs)
 | _=>.leaf ""
def iO:List PyData→List Tr
 | []=>[]
 | d::ds=>trD d::iO ds
end
mutual
def nh:PyData→Bool
 | .str _=>true
 | .list xs=>bN xs
 | .tuple xs=>bN xs
 | _=>false
def bN:List PyData→Bool
 | []=>true
 | d::ds=>nh d&&bN ds
end
mutual
theorem sm{H:Hp}:∀ {d:PyData} {v:V},nh d=true→Rd0 H v (tupD d)→Tup H v (trD d)
 | .str x,_,_,.str _=>.leaf x
 | .list xs,_,h,.tup _ e r=>by rw [trD]; exact .node e (kG h r)
 | .tuple xs,_,h,.tup _ e r=>by rw [trD]; exact .node e (kG h r)
theorem kG{H:Hp}:∀ {ds:List PyData} {vs:List V},bN ds=true→aB H vs (be ds)→de H vs (iO ds)
 | [],_,_,.nil=>.nil
 | d::ds,_,h,.cons a r=>by
  simp only [bN,YW] at h
  rw [iO]; exact .cons (sm h.1 a) (kG h.2 r)
end
mutual
theorem oX:∀ d:PyData,dep (trD d)≤d.depth
 | .str x=>YO _
 | .list xs=>by rw [trD,dep,Y6]; have:=iN xs; omega
 | .tuple xs=>by rw [trD,dep,Y6]; have:=iN xs; omega
 | .none=>YO _
 | .bool _=>YO _
 | .int _=>YO _
 | .dict _=>YO _
theorem iN:∀ ds:List PyData,iB (iO ds)≤YQ ds
 | []=>YO _
 | d::ds=>by rw [iO,iB,YQ]; have:=oX d; have:=iN ds; omega
end
mutual
theorem rG:∀ d:PyData,(wr (trD d)).length≤3*d.weight+2
 | .str x=>by rw [trD,wr,Y4]; show x.cps.size≤_; omega
 | .list xs=>by rw [trD,mZ,Y4]; have:=kT ((iO xs).map wr); have:=kg xs; omega
 | .tuple xs=>by rw [trD,mZ,Y4]; have:=kT ((iO xs).map wr); have:=kg xs; omega
 | .none=>YO _
 | .bool _=>YO _
 | .int _=>YO _
 | .dict _=>YO _
theorem kg:∀ ds:List PyData,(((iO ds).map wr).map fun x=>x.length+1).sum≤3*YG ds
 | []=>YO _
 | d::ds=>by rw [iO,Y9,Y9,List.sum_cons,YG]; have:=rG d; have:=kg ds; omega
end
mutual
theorem jf{fs:List ao}{S:Sco}:∀ {d:PyData} {k:Str},aV fs S d=some k→nh d=true
 | .str _,_,_=>rfl
 | .list xs,_,h=>mQ (by rw [aV] at h; exact h)
 | .tuple xs,_,h=>mQ (by rw [aV] at h; exact h)
 | .none,_,h=>by cases h
 | .bool _,_,h=>by cases h
 | .int _,_,h=>by cases h
 | .dict _,_,h=>by cases h
theorem mQ{fs:List ao}{S:Sco}:∀ {xs:List PyData} {k:Str},mS fs S xs=some k→bN xs=true
 | [],_,_=>rfl
 | .str f::xs,k,h=>by
  rw [mS] at h
  split at h
  ·rename_i ps k' _
   split at h
   ·rename_i hr
    rw [bN,kF hr]; rfl
   ·cases h
  ·cases h
 | .none::_,_,h=>by cases h
 | .bool _::_,_,h=>by cases h
 | .int _::_,_,h=>by cases h
 | .list _::_,_,h=>by cases h
 | .tuple _::_,_,h=>by cases h
 | .dict _::_,_,h=>by cases h
theorem kF{fs:List ao}{S:Sco}:∀ {xs:List PyData} {ps:List Str},bI fs S xs ps=true→bN xs=true
 | [],_,_=>rfl
 | d::xs,[],h=>by cases h
 | d::xs,p::ps,h=>by
  rw [bI,YW] at h
  rw [bN,jf (eq_of_beq h.1),kF h.2]; rfl
end
mutual
theorem iE{ks:List Str}{ts:List aq}{fs:List ao}:∀ {d:PyData} {S:Sco},bg ks ts fs d S=true→nh d=true
 | .list xs,_,h=>lM (by rw [bg] at h; exact h)
 | .tuple xs,_,h=>lM (by rw [bg] at h; exact h)
 | .str _,_,_=>rfl
 | .none,_,h=>by cases h
 | .bool _,_,h=>by cases h
 | .int _,_,h=>by cases h
 | .dict _,_,h=>by cases h
theorem lM{ks:List Str}{ts:List aq}{fs:List ao}:∀ {xs:List PyData} {S:Sco},eB ks ts fs xs S=true→bN xs=true
 | [],_,_=>rfl
 | .str w::xs,S,h=>by
  rw [eB] at h
  rw [bN]
  show bN xs=true
  split at h
  ·match xs,h with
   | [x,y],h=>
    rw [eqD,YW] at h
    obtain⟨k,hk⟩:=Option.isSome_iff_exists.mp h.1
    have h2:=eq_of_beq h.2
    rw [hk] at h2
    rw [bN,bN,jf hk,jf h2.symm]; rfl
  split at h
  ·rw [YW] at h; exact ln h.2
  split at h
  ·exact ln h
  split at h
  ·exact uT h
  split at h
  ·exact kF h
  ·cases h
 | .none::_,_,h=>by cases h
 | .bool _::_,_,h=>by cases h
 | .int _::_,_,h=>by cases h
 | .list _::_,_,h=>by cases h
 | .tuple _::_,_,h=>by cases h
 | .dict _::_,_,h=>by cases h
theorem ln{ks:List Str}{ts:List aq}{fs:List ao}:∀ {xs:List PyData} {S:Sco},bO ks ts fs xs S=true→bN xs=true
 | [],_,_=>rfl
 | d::xs,S,h=>by
  rw [bO,YW] at h
  rw [bN,iE h.1,ln h.2]; rfl
theorem uT{ks:List Str}{ts:List aq}{fs:List ao}:∀ {xs:List PyData} {S:Sco},dy ks ts fs xs S=true→bN xs=true
 | .str v::.str k::x::[],S,h=>by
  rw [dy,YW] at h
  rw [bN,bN,bN,iE h.2]; rfl
 | .str v::.str k::x::y::r,S,h=>by rw [dy] at h; simp at h
 | [],_,h=>by cases h
 | [d],_,h=>by cases d <;> cases h
 | [.str v,d],_,h=>by cases d <;> cases h
 | .none::_::_,_,h=>by cases h
 | .bool _::_::_,_,h=>by cases h
 | .int _::_::_,_,h=>by cases h
 | .list _::_::_,_,h=>by cases h
 | .tuple _::_::_,_,h=>by cases h
 | .dict _::_::_,_,h=>by cases h
 | .str _::.none::_,_,h=>by cases h
 | .str _::.bool _::_,_,h=>by cases h
 | .str _::.int _::_,_,h=>by cases h
 | .str _::.list _::_,_,h=>by cases h
 | .str _::.tuple _::_,_,h=>by cases h
 | .str _::.dict _::_,_,h=>by cases h
end
theorem g6{H:Hp}{x dx CB:Addr}(hx:H x=none)(hd:H dx=none)(n:dx≠x):al H (upd (upd H dx (.own x)) x (.ins CB dx [])):=
 (ac hd _).trans (ac (by rw [ae (Ne.symm n)]; exact hx) _)
theorem df{H H1 H2:Hp}{x:Addr}(hx:H x=none)(s:al H H1)(t:av x H1 H2):al H H2:=fun b o e=>t b o (af e hx) (s b o e)
abbrev S0:Sco:=fun _=>none
section
abbrev dL:Stmt:=top 19
theorem zcj:ai lC9 lC9 (ag dL):=by walk_at "F"
inductive spLookE(C N:Addr)(vs:List V)(H:Hp)(Q:VK)(E:XK):Prop | mk (g:Addr) (v:V) (ks:List Str) (ts:List aq) (fs:List ao) (d:PyData) (_:vs=[.ref g,v]) (_:aQ C H g ks ts fs) (_:aU ks ts fs) (_:Rd0 H v d) (_:d.depth≤12) (_:d.weight≤100000) (_:(bg ks ts fs d S0=true→∀ u H',Rd0 H' u (tupD d)→al H H'→Q u H')) (_:(bg ks ts fs d S0=false→∀ H',al H H'→E (.ref N) none H'))
theorem tK{C CT N fT:Addr}{fdT:FuncData}(F:ah K mg "looked_over" dL lC9)(Z:Bl mg)(GD:∃ u,mg "DEEPEST"=some u∧ar (.int 64) u)
  (M_SignTable:Mk K CT fT) (G_SignTable:cC P w K mg base CX0 2 fT fdT lE1 (spTabInit C CT)) (m_SignTable:mg "SignTable"=some (.ref CT)) (b_SignTable:ce K fdT lE1 [])
  (D_checked_saying:bc P w K mg base "checked_saying" (2*12+5) lA4 (spSayE CT N 12)):bc P w K mg base "looked_over" 30 lC9 (spLookE C N):=by
 have SC:=zcj
 obtain⟨_,g_DEEPEST,r_DEEPEST⟩:=GD
 refine F.mkE (k:=29) zcj (fun vs H Q E h=>?_) (fun f cdv A outer s H vs Q E hr h=>?_)
 ·obtain⟨g,v,ks,ts,fs,d,rfl,_⟩:=h
  rfl
 ·obtain⟨g,v,ks,ts,fs,d,rfl,hS,ok,hv,hd,hw,q,no⟩:=h
  refine'⟨_,?dv,?_⟩
  case dv=>(walk_at "S1")
  refine⟨_,rfl,fun x dx hx hdx nd=>?_⟩
  have s1:=g6 (CB:=CT) hx hdx nd
  refine⟨x,dx,g,ks,ts,fs,rfl,aa,hS.same s1,ok,fun H2 hT t2=>⟨rfl,?_⟩⟩
  have s2:=df hx s1 t2
  refine⟨_,rfl,fun sc hsc=>?_⟩
  have s3:=ac hsc (.dK [])
  exact⟨x,sc,v,64,ks,ts,fs,S0,0,d,rfl,hT.same s3,ok,⟨[],aa,YD _,fun _=>rfl⟩,by decide,Rd0.same hv (s2.trans s3),iX hw,hd,by omega,fun hy u H4 tu s4=>q hy u H4 tu ((s2.trans s3).trans s4),fun hy H' s'=>no hy H' ((s2.trans s3).trans s')⟩
abbrev cz:Stmt:=top 20
theorem zck:ai lD6 lD6 (ag cz):=by walk_at "F"
inductive spAllE(C N:Addr)(vs:List V)(H:Hp)(Q:VK)(E:XK):Prop | mk (g:Addr) (v:V) (ks:List Str) (ts:List aq) (fs:List ao) (d:PyData) (_:vs=[.ref g,v]) (_:aQ C H g ks ts fs) (_:aU ks ts fs) (_:Rd0 H v d) (_:d.depth≤13) (_:d.weight≤100000) (_:(∀ ds,cn d=some ds→bO ks ts fs ds S0=true→∀ D ys H',H D=none→H' D=some (.lst ys)→aB H' ys (be ds)→al H H'→Q (.ref D) H')) (_:((∀ ds,cn d=some ds→bO ks ts fs ds S0=false)→∀ H',al H H'→E (.ref N) none H'))
theorem gy{d:PyData}{ds:List PyData}{n W:Nat}(h:cn d=some ds)(h1:d.depth≤n+1)(h2:d.weight≤W):YQ ds≤n∧YG ds≤W:=by
 cases d <;> first | cases h | skip
 ·rw [Y6] at h1; rw [Y4] at h2; exact⟨by omega,h2⟩
 ·rw [Y6] at h1; rw [Y4] at h2; exact⟨by omega,h2⟩
theorem vW{C N:Addr}(F:ah K mg "all_looked_over" cz lD6)(Z:Bl mg)(O_NoSaying:cX K mg "NoSaying" N)(D_is_list:bc P w K mg base "is_list" 1 lB0 spIsListO)(D_looked_over:bc P w K mg base "looked_over" 30 lC9 (spLookE C N)):bc P w K mg base "all_looked_over" 31 lD6 (spAllE C N):=by
 have SC:=zck
 refine F.mkE (k:=30) zck (fun vs H Q E h=>?_) (fun f cdv A outer s H vs Q E hr h=>?_)
 ·obtain⟨g,v,ks,ts,fs,d,rfl,_⟩:=h
  rfl
 ·obtain⟨g,v,ks,ts,fs,d,rfl,hS,ok,hv,hd,hw,q,no⟩:=h
  refine'⟨_,?dv,?_⟩
  case dv=>(have:=bB 49 11 58 1 ["thing","signs","things"]; have:=aj 8 49 51 57; walk_at "S2")
  refine⟨_,rfl,v,rfl,hv.sh,fun H1 s1=>⟨_,rfl,?_⟩⟩
  rw [hv.rows]
  cases hk:cn d with
  | none=>exact ifT rfl ⟨by show 1≤sizeLine; decide,no (fun ds e=>by rw [hk] at e; cases e) _ s1⟩
  | some ds=>
  obtain⟨a,xs,rfl,hL,hm⟩:=hv.row hk
  obtain⟨bd,bw⟩:=gy hk hd hw
  have ml:=aB.length hm
  have wl:=d5 ds
  refine ifF (by simp) ?_
  refine LT.over (K:=K) (hL.same s1) rfl fun J O cl C1 ex s0 Hc=>O.comp (fun i ys H2=>al H H2∧aB H2 ys (be (ds.take i))∧∀ j d,j<i→ds[j]? = some d→bg ks ts fs d S0=true) ⟨s1,.nil,fun j d z=>by omega⟩ (YE (show xs.length≤100000 by omega) (by decide)) (fun i ys H2 _ h2 o e=>?_) ?_ ?_
  ·rcases hL with z | z
   ·rw [s1 _ _ z] at e; rw [← e]; exact h2.1 _ _ z
   ·rw [s1 _ _ z] at e; rw [← e]; exact h2.1 _ _ z
  ·rintro i y ys H2 hy yl ⟨s2,t2,h2⟩
   obtain⟨d',hd',hmt⟩:=aB.get hm hy
   have dt:=cH hd'
   have wt:=gl hd'
   refine⟨_,rfl,_,rfl,g,y,ks,ts,fs,d',rfl,hS.same s2,ok,Rd0.same hmt s2,by omega,by omega,fun hy2 u H3 tu s3=>⟨s2.trans s3,?_,fun j d2 hj e=>?_⟩,fun hy2 H' s'=>no (fun ds' e=>?_) H' (s2.trans s')⟩
   ·rw [Y7,hd',bt,Y1,← bt]
    exact aB.snoc (aB.same t2 s3) tu
   ·by_cases hji:j<i
    ·exact h2 j d2 hji e
    ·obtain rfl:j=i:=by omega
     rw [e] at hd'; cases hd'; exact hy2
   ·rw [hk] at e; cases e; exact pS hd' hy2
  ·rintro ys H2 yl ⟨s2,t2,h2⟩ D hD
   rw [ml,Y8] at t2
   have hDf:H D=none:=by
    cases e:H D with
    | none=>rfl
    | some o=>rw [s2 _ _ e] at hD; cases hD
   exact q ds hk (all_iff.mpr fun i d2 e=>h2 i d2 (by have:=(YV.mp e).1; omega) e) D ys _ hDf aa (aB.same t2 (ac hD _)) (s2.trans (ac hD _))
abbrev dl:Stmt:=top 28
theorem zcl:ai lD7 lD7 (ag dl):=by walk_at "F"
inductive spWriteE(C N:Addr)(vs:List V)(H:Hp)(Q:VK)(E:XK):Prop | mk (g:Addr) (v:V) (ks:List Str) (ts:List aq) (fs:List ao) (d:PyData) (_:vs=[.ref g,v]) (_:aQ C H g ks ts fs) (_:aU ks ts fs) (_:Rd0 H v d) (_:d.depth≤12) (_:d.weight≤100000) (_:(bg ks ts fs d S0=true→∀ z H',al H H'→Q (.str z) H')) (_:(bg ks ts fs d S0=false→∀ H',al H H'→E (.ref N) none H'))
theorem qu{C N:Addr}(F:ah K mg "write_saying" dl lD7)(Z:Bl mg)(D_looked_over:bc P w K mg base "looked_over" 30 lC9 (spLookE C N))(D_written:Def P w K mg base "written" (12+2) lB0 (spWr 12)):bc P w K mg base "write_saying" 31 lD7 (spWriteE C N):=by
 have SC:=zcl
 refine F.mkE (k:=30) zcl (fun vs H Q E h=>?_) (fun f cdv A outer s H vs Q E hr h=>?_)
 ·obtain⟨g,v,ks,ts,fs,d,rfl,_⟩:=h
  rfl
 ·obtain⟨g,v,ks,ts,fs,d,rfl,hS,ok,hv,hd,hw,q,no⟩:=h
  refine'⟨_,?dv,?_⟩
  case dv=>(walk_at "S1")
  refine⟨_,rfl,_,rfl,g,v,ks,ts,fs,d,rfl,hS,ok,hv,hd,hw,fun hy u H1 tu s1=>?_,no⟩
  have d1:=oX d
  have w1:=rG d
  exact⟨u,trD d,rfl,sm (iE hy) tu,by omega,by omega,fun H2 s2=>q hy _ H2 (s1.trans s2)⟩
end
structure ClX(K:WB)(C:Addr):Prop where
 cl:Cls K C
 n1:ci K C "kept_signs"
 n2:ci K C "kept_sayings"
def fx1(g:Addr):List (Str×V):=aW "kept_signs" (.ref g) []
def fx2(g kt:Addr):List (Str×V):=aW "kept_sayings" (.ref kt) (fx1 g)
theorem wv(g:Addr):(fx1 g).length<1000:=Xz (aT _ _ _) (by decide)
theorem mE(g kt:Addr):(fx2 g kt).lookup ("kept_sayings":Str)=some (.ref kt):=by unfold fx2; rw [ap,if_pos rfl]
theorem yA{g kt:Addr}{m:Str}(h1:¬ m="kept_signs")(h2:¬ m="kept_sayings"):(fx2 g kt).lookup m=none:=by
 unfold fx2
 rw [ap,if_neg h2]
 unfold fx1
 rw [ap,if_neg h1]
 rfl
mutual
theorem so{H H':Hp}{x C dx:Addr}{fl:List (Str×V)}(hx:H x=some (.ins C dx fl))(s:av x H H'):∀ {v:V} {d:PyData},Rd0 H v d→Rd0 H' v d
 | _,_,.non=>.non
 | _,_,.bl b=>.bl b
 | _,_,.int i=>.int i
 | _,_,.str z=>.str z
 | _,_,.lst _ e z=>.lst trivial (s _ _ (fun w=>by rw [w,hx] at e; cases e) e) (iF hx s z)
 | _,_,.tup _ e z=>.tup trivial (s _ _ (fun w=>by rw [w,hx] at e; cases e) e) (iF hx s z)
 | _,_,.d0 _ e=>.d0 trivial (s _ _ (fun w=>by rw [w,hx] at e; cases e) e)
 | _,_,.d1 _ e=>.d1 trivial (s _ _ (fun w=>by rw [w,hx] at e; cases e) e)
theorem iF{H H':Hp}{x C dx:Addr}{fl:List (Str×V)}(hx:H x=some (.ins C dx fl))(s:av x H H'):∀ {v:List V} {d:List PyData},aB H v d→aB H' v d
 | _,_,.nil=>.nil
 | _,_,.cons a r=>.cons (so hx s a) (iF hx s r)
end
def xh(CX:Addr)(H:Hp)(x:Addr)(es:List PyData):Prop:=∃ dx g kt ys,H x=some (.ins CX dx (fx2 g kt))∧H kt=some (.tup ys)∧aB H ys es
section
abbrev dr:Stmt:=em (top 44) 0
theorem zcm:ai lC6 lC6 (ag dr):=by walk_at "F"
inductive spTextE(C CX N:Addr)(vs:List V)(H:Hp)(Q:VK)(E:XK):Prop | mk (x dx g:Addr) (v:V) (ks:List Str) (ts:List aq) (fs:List ao) (d:PyData) (_:vs=[.ref x,.ref g,v]) (_:H x=some (.ins CX dx [])) (_:aQ C H g ks ts fs) (_:aU ks ts fs) (_:Rd0 H v d) (_:d.depth≤13) (_:d.weight≤100000) (_:g≠x) (_:(∀ ds,cn d=some ds→bO ks ts fs ds S0=true→∀ H',xh CX H' x (be ds)→av x H H'→Q .non H')) (_:((∀ ds,cn d=some ds→bO ks ts fs ds S0=false)→∀ H',av x H H'→E (.ref N) none H'))
theorem sY{f C CX N:Addr}{fd:FuncData}(F:Fun K "__init__" "Text.__init__" dr f fd)(Z:Bl mg)(TX:ClX K CX)(D_all_looked_over:bc P w K mg base "all_looked_over" 31 lD6 (spAllE C N)):cC P w K mg base (CX1 P w) 32 f fd lC6 (spTextE C CX N):=by
 have SC:=zcm
 refine F.okE zcm (fun vs H Q E h=>?_) (fun cdv A outer s H vs Q E hr h=>?_)
 ·obtain⟨x,dx,g,v,ks,ts,fs,d,rfl,_⟩:=h
  rfl
 ·obtain⟨x,dx,g,v,ks,ts,fs,d,rfl,hx,hS,ok,hv,hd,hw,gx,q,no⟩:=h
  refine'⟨_,?dv,?_⟩
  case dv=>(walk_at "S2")
  refine⟨_,rfl,_,rfl,x,CX,dx,_,rfl,hx,TX.cl,TX.n1,by decide,?_⟩
  have S1:av x H (upd H x (.ins CX dx (aW "kept_signs" (.ref g) []))):=av.upd _ _ _
  have x1:upd H x (.ins CX dx (aW "kept_signs" (.ref g) [])) x=some (.ins CX dx (fx1 g)):=aa
  generalize (upd H x (.ins CX dx (aW "kept_signs" (.ref g) [])))=H1 at S1 x1
  have gS1:aQ C H1 g ks ts fs:=hS.keep (fun o e=>S1 g o gx e) (fun a xs e=>S1 a _ (by rintro rfl; rw [hx] at e; cases e) e)
  refine⟨_,rfl,_,rfl,g,v,ks,ts,fs,d,rfl,gS1,ok,so hx S1 hv,hd,hw,fun ds hk hy D ys H2 hD eD tD s2=>?_,fun hn H' s'=>no hn H' (S1.same s')⟩
  refine⟨D,ys,rfl,.inl ⟨SqL.of eD,fun kt hkt=>?_⟩⟩
  have s3:=s2.trans (ac hkt (.tup ys))
  have x3:=s3 _ _ x1
  refine⟨_,rfl,x,CX,dx,_,rfl,x3,TX.cl,TX.n2,wv _,?_⟩
  have S4:av x (upd H2 kt (.tup ys)) (upd (upd H2 kt (.tup ys)) x (.ins CX dx (aW "kept_sayings" (.ref kt) (fx1 g)))):=av.upd _ _ _
  exact q ds hk hy _ ⟨dx,g,kt,ys,aa,S4 _ _ (fun z=>by rw [z] at hkt; rw [s2 _ _ x1] at hkt; cases hkt) aa,iF x3 S4 (aB.same tD (ac hkt _))⟩ ((S1.same s3).trans S4)
end
section
abbrev dO:Stmt:=em (top 44) 2
theorem zcn:ai lC3 lC3 (ag dO):=by walk_at "F"
inductive spTSays(CX:Addr)(vs:List V)(H:Hp)(Q:VK)(e3_:XK):Prop | mk (x:Addr) (es:List PyData) (_:vs=[.ref x]) (_:xh CX H x es) (_:∀ a ys,H a=none→aB H ys es→Q (.ref a) (upd H a (.lst ys)))
theorem sW{f CX:Addr}{fd:FuncData}(F:Fun K "sayings" "Text.sayings" dO f fd)(Z:Bl mg)(TX:ClX K CX):cC P w K mg base CX0 1 f fd lC3 (spTSays CX):=by
 have SC:=zcn
 refine F.ok zcn (fun vs H Q E h=>?_) (fun cdv A outer s H vs Q E hr h=>?_)
 ·obtain⟨x,es,rfl,_⟩:=h
  rfl
 ·obtain⟨x,es,rfl,⟨dx,g,kt,ys,h1,h3,h4⟩,q⟩:=h
  refine'⟨_,?dv,?_⟩
  case dv=>(walk_at "S1")
  exact⟨_,rfl,x,CX,dx,_,_,rfl,h1,TX.cl,TX.n2,mE _ _,kt,_,rfl,.inr (SqT.of h3),fun a ha=>q a ys ha h4⟩
end
abbrev BkR(H:Hp)(b:Addr)(ks:List Str)(ts:List aq)(fs:List ao):Prop:=RdV Any H (.ref b) (pQ ks ts fs)
theorem BkR.same{H H':Hp}{b:Addr}{ks:List Str}{ts:List aq}{fs:List ao}(h:BkR H b ks ts fs)(s:al H H'):BkR H' b ks ts fs:=RdV.mono (fun _ z=>z) (fun a o _ e=>s a o e) h
theorem BkR.open{H:Hp}{b:Addr}{ks:List Str}{ts:List aq}{fs:List ao}(h:BkR H b ks ts fs):∃ k t f tv fv,H b=some (.tup [.ref k,.ref t,.ref f])∧H k=some (.lst (ks.map V.str))∧H t=some (.lst tv)∧RdA Any H tv (ts.map lF)∧H f=some (.lst fv)∧RdA Any H fv (fs.map lb):=by
 obtain⟨_,xs,e,_,h1,h2⟩:=RdV.tuple_inv h
 cases e
 obtain⟨x,y,z,rfl,hx,hy,hz⟩:=h2.three
 obtain⟨k,kx,rfl,nk,h3,h4⟩:=hx.list_inv
 obtain rfl:=h4.strs_inv
 obtain⟨t,tx,rfl,nt,h5,h6⟩:=hy.list_inv
 obtain⟨f,fx,rfl,nf,h7,h8⟩:=hz.list_inv
 exact⟨k,t,f,tx,fx,h1,h3,h5,h6,h7,h8⟩
theorem pG{H:Hp}{tv:List V}{ts:List aq}{i:Nat}{y:V}(rt:RdA Any H tv (ts.map lF))(hy:tv[i]? = some y):∃ t py pp,ts[i]? = some t∧y=.ref py∧H py=some (.tup [.str t.nm,.ref pp])∧H pp=some (.lst (t.ps.map V.str)):=by
 obtain⟨d,hd,rd⟩:=rt.getV hy
 rw [YZ] at hd
 obtain⟨t,ht,rfl⟩:=YS.mp hd
 obtain⟨py,px,rfl,_,hpy,hpx⟩:=RdV.tuple_inv rd
 obtain⟨a1,a2,rfl,r1,r2⟩:=hpx.two
 obtain rfl:=r1.str_inv
 obtain⟨pp,ppx,rfl,_,hpp,hps⟩:=r2.list_inv
 obtain rfl:=hps.strs_inv
 exact⟨t,py,pp,ht,rfl,hpy,hpp⟩
theorem pH{H:Hp}{tv:List V}{ts:List ao}{i:Nat}{y:V}(rt:RdA Any H tv (ts.map lb))(hy:tv[i]? = some y):∃ t py pp,ts[i]? = some t∧y=.ref py∧H py=some (.tup [.str t.nm,.ref pp,.str t.kd])∧H pp=some (.lst (t.ps.map V.str)):=by
 obtain⟨d,hd,rd⟩:=rt.getV hy
 rw [YZ] at hd
 obtain⟨t,ht,rfl⟩:=YS.mp hd
 obtain⟨py,px,rfl,_,hpy,hpx⟩:=RdV.tuple_inv rd
 obtain⟨a1,a2,a3,rfl,r1,r2,r3⟩:=hpx.three
 obtain rfl:=r1.str_inv
 obtain rfl:=r3.str_inv
 obtain⟨pp,ppx,rfl,_,hpp,hps⟩:=r2.list_inv
 obtain rfl:=hps.strs_inv
 exact⟨t,py,pp,ht,rfl,hpy,hpp⟩
theorem gg{α:Type}{p:α→Bool}:∀ {l:List α} {i:Nat} {t:α},l[i]? = some t→p t=true→(∀ j u,j<i→l[j]? = some u→p u=false)→l.find? p=some t
 | x::r,0,t,e,h,_=>by cases e; rw [XU,h]
 | x::r,i+1,t,e,h,n=>by
  rw [XU,n 0 x (Nat.zero_lt_succ _) rfl]
  exact gg (i:=i) e h fun j u hj e=>n (j+1) u (Nat.succ_lt_succ hj) e
theorem gB{α:Type}{p:α→Bool}{l:List α}(n:∀ j u,j<l.length→l[j]? = some u→p u=false):l.find? p=none:=by
 rw [List.find?_eq_none]
 intro x hx
 obtain⟨j,hj,e⟩:=List.getElem_of_mem hx
 rw [n j x hj (by rw [List.getElem?_eq_getElem hj,e])]
 exact YN
section
abbrev fU:Stmt:=top 61
theorem zco:ai ["_law_signs","_law_name_here","_law_many","_law_sign_here"] lA9 (ag fU):=by walk_at "F"
def iU:Sp:=fun vs H Q _=>(∃ (l:Addr) (tv:List V) (ts:List aq) (z:Str),vs=[.ref l,.str z,.int 1]∧H l=some (.lst tv)∧RdA Any H tv (ts.map lF)∧(eM ts z=none→Q .non H)∧∀ ps pl,eM ts z=some ps→H pl=some (.lst (ps.map V.str))→Q (.ref pl) H)∨
 ∃ (l:Addr) (tv:List V) (ts:List ao) (z:Str),vs=[.ref l,.str z,.int 2]∧H l=some (.lst tv)∧RdA Any H tv (ts.map lb)∧(fJ ts z=none→Q .non H)∧∀ ps k pl p H',fJ ts z=some (ps,k)→H' p=some (.tup [.ref pl,.str k])→H' pl=some (.lst (ps.map V.str))→al H H'→Q (.ref p) H'
theorem vN(F:ah K mg "_law_sign" fU lA9)(Z:Bl mg):Def P w K mg base "_law_sign" 1 lA9 iU:=by
 have SC:=zco
 refine F.mk' (k:=0) zco (fun vs H Q E h=>?_) (fun f cdv A outer s H vs Q E hr h=>?_)
 ·rcases h with ⟨_,_,_,_,rfl,_⟩ | ⟨_,_,_,_,rfl,_⟩ <;> rfl
 ·skip
  refine'⟨_,?dv,?_⟩
  case dv=>(have:=aj 10 293 11 28; have:=aj 29 294 19 37; have:=aj 10 294 61 78; have:=aj 8 292 26 36; walk_at "S2")
  rcases h with ⟨l,tv,ts,z,rfl,hl,rt,q0,q1⟩ | ⟨l,tv,ts,z,rfl,hl,rt,q0,q1⟩
  ·have tl:tv.length=ts.length:=by rw [rt.length,YC]
   refine LT.over (K:=K) (.inl hl) rfl fun J O=>O.loop (fun i σ H2=>H2=H∧(∃ v3,σ=[some (.ref l),some (.str z),some (.int 1),v3])∧∀ j t,j<i→ts[j]? = some t→(t.nm==z)=false) ⟨rfl,⟨none,rfl⟩,fun j t h=>by omega⟩ (fun i σ H2 _ h o e=>by rw [h.1]; exact e) ?_ ?_
   ·rintro i y σ H2 hi ⟨rfl,⟨v3,rfl⟩,hn⟩
    obtain⟨t,py,pl,ht,rfl,h1,h2⟩:=pG rt hi
    refine⟨_,rfl,py,_,_,_,rfl,rfl,SqT.of h1,rfl,_,rfl,rfl,_,rfl,?_⟩
    by_cases e:t.nm=z
    ·refine ifT (by simp [e]) ⟨_,rfl,rfl,_,rfl,ifF (by decide) ⟨_,rfl,py,_,_,_,rfl,rfl,SqT.of h1,rfl,q1 t.ps pl ?_ h2⟩⟩
     unfold eM
     rw [gg ht (by simp [e]) hn]; rfl
    ·refine ifF (by simp [e]) ⟨rfl,⟨_,rfl⟩,fun j u hj eu=>?_⟩
     by_cases hji:j<i
     ·exact hn j u hji eu
     ·obtain rfl:j=i:=by omega
      rw [ht] at eu; cases eu; simpa using e
   ·rintro σ H2 ⟨rfl,⟨v3,rfl⟩,hn⟩
    refine q0 ?_
    unfold eM
    rw [gB fun j u hj eu=>hn j u (by omega) eu]; rfl
  ·have tl:tv.length=ts.length:=by rw [rt.length,YC]
   refine LT.over (K:=K) (.inl hl) rfl fun J O=>O.loop (fun i σ H2=>H2=H∧(∃ v3,σ=[some (.ref l),some (.str z),some (.int 2),v3])∧∀ j t,j<i→ts[j]? = some t→(t.nm==z)=false) ⟨rfl,⟨none,rfl⟩,fun j t h=>by omega⟩ (fun i σ H2 _ h o e=>by rw [h.1]; exact e) ?_ ?_
   ·rintro i y σ H2 hi ⟨rfl,⟨v3,rfl⟩,hn⟩
    obtain⟨t,py,pl,ht,rfl,h1,h2⟩:=pH rt hi
    refine⟨_,rfl,py,_,_,_,rfl,rfl,SqT.of h1,rfl,_,rfl,rfl,_,rfl,?_⟩
    by_cases e:t.nm=z
    ·refine ifT (by simp [e]) ⟨_,rfl,rfl,_,rfl,ifT (by decide) ⟨_,rfl,_,rfl,py,_,rfl,SqT.of h1,by show ¬ (HT.sIx 3 0 (some 1)=0∧HT.sIx 3 3 none=3); decide,fun p hp=>q1 t.ps t.kd pl p _ ?_ aa (ac hp _ _ _ h2) (ac hp _)⟩⟩
     unfold fJ
     rw [gg ht (by simp [e]) hn]; rfl
    ·refine ifF (by simp [e]) ⟨rfl,⟨_,rfl⟩,fun j u hj eu=>?_⟩
     by_cases hji:j<i
     ·exact hn j u hji eu
     ·obtain rfl:j=i:=by omega
      rw [ht] at eu; cases eu; simpa using e
   ·rintro σ H2 ⟨rfl,⟨v3,rfl⟩,hn⟩
    refine q0 ?_
    unfold fJ
    rw [gB fun j u hj eu=>hn j u (by omega) eu]; rfl
abbrev fV:Stmt:=top 64
theorem zcp:ai lA8 lA8 (ag fV):=by walk_at "F"
theorem tM(F:ah K mg "_law_name" fV lA8)(Z:Bl mg):Def P w K mg base "_law_name" 1 lA8 spNameE:=by
 have SC:=zcp
 refine F.mk' (k:=0) zcp (fun vs H Q E h=>?_) (fun f cdv A outer s H vs Q E hr h=>?_)
 ·obtain⟨v,rfl,_⟩:=h
  rfl
 ·obtain⟨v,rfl,hv,hlen,q⟩:=h
  refine'⟨_,?dv,?_⟩
  case dv=>(have:=aj 2 310 11 38; have:=aj 3 312 16 62; have:=aj 4 310 51 66; have:=bB 312 15 96 1 ["_law_sign_here","_law_thing"]; have:=aj 5 312 85 95; have:=aj 6 312 16 62; walk_at "S2")
  obtain⟨ty,hty,hk⟩:=hv.isS (K:=K)
  refine⟨_,rfl,_,_,_,rfl,hty,hk,?_⟩
  by_cases hs:∃ z,v=.str z
  ·obtain⟨z,rfl⟩:=hs
   have hz:=iD z
   have hcs:z.cps.size=z.cps.toList.length:=by simp
   have hB:nmV (.str z)=(decide (1≤z.cps.toList.length)&&decide (z.cps.toList.length≤12)&&z.cps.toList.all iz):=rfl
   refine⟨true,rfl,dz ?_⟩
   refine⟨_,rfl,_,rfl,YE (hlen z rfl) (by decide),_,_,rfl,rfl,_,rfl,?_⟩
   by_cases h1:1≤z.cps.toList.length
   ·refine ifT (decide_eq_true (by omega)) ?_
    refine⟨_,_,rfl,rfl,_,rfl,?_⟩
    by_cases h2:z.cps.toList.length≤12
    ·rw [decide_eq_true h1,decide_eq_true h2] at hB
     refine ifF (by simp; omega) ?_
     refine⟨_,rfl,z,rfl,?_⟩
     intro cl C ex s0 H0
     refine bi z.cps.size (fun i ys H1=>ys=((z.cps.toList.take i).map iz).map V.bl∧H1=H) (fun i x=>∃ c,z.cps[i]? = some c∧x=.str ⟨#[c]⟩) ⟨rfl,rfl⟩ (YE (show z.cps.size≤12 by omega) (by decide)) (fun i ys H1 hi _ _=>oq hi) (fun ys H1 _ _=>iT) ?_ ?_
     ·rintro i x ys H1 hi ⟨c,hc,rfl⟩ hy ⟨rfl,rfl⟩
      have hm:z.cps.toList[i]? = some c:=by simpa using hc
      refine⟨_,rfl,_,_,rfl,rfl,?_,rfl⟩
      rw [Y7,hm]
      show _=List.map V.bl (List.map iz (List.take i z.cps.toList++[c]))
      rw [Y1,Y1]
      rfl
     ·rintro ys H1 hy ⟨rfl,rfl⟩ D hD
      refine⟨D,(z.cps.toList.take z.cps.size).map iz,rfl,SqL.of aa,?_⟩
      have:=q _ (ac hD (.lst (((z.cps.toList.take z.cps.size).map iz).map V.bl)))
      rw [hB] at this
      rw [XS (by omega)] at this ⊢
      rw [List.all_map]
      exact this
    ·rw [decide_eq_false h2,Bool.and_false,XZ] at hB
     have:=q _ (al.refl _)
     rw [hB] at this
     exact ifT (by simp; omega) this
   ·rw [decide_eq_false h1,XZ,XZ] at hB
    have:=q _ (al.refl _)
    rw [hB] at this
    refine ifF (by simp; omega) ?_
    exact⟨false,rfl,wq this⟩
  ·have hst:dE v=false:=by cases v <;> first | rfl | exact absurd ⟨_,rfl⟩ hs
   have hB:nmV v=false:=by cases v <;> first | rfl | exact absurd ⟨_,rfl⟩ hs
   have:=q _ (al.refl _)
   rw [hB] at this
   exact⟨false,by rw [hst],wq this⟩
end
def hU:Option Str→V
 | none=>.non
 | some k=>.str k
theorem wK(o:Option Str)(p:Str):decide (hU o=V.str p)=(o==some p):=by
 cases o with
 | none=>rfl
 | some k=>
  rw [X4]
  simp [hU]
theorem xt{K:WB}{H:Hp}{a:Addr}{x:V}{xs:List V}{Q:VK}(h:LT H a (x::xs))(q:∀ p o,H p=none→LT (upd H p o) p xs→Q (.ref p) (upd H p o)):xz K (.ref a) (some 1) none H Q:=by
 have e1:HT.sIx (x::xs).length 0 (some 1)=1:=by
  show min (Int.toNat 1) (xs.length+1)=1
  have : Int.toNat 1=1:=rfl
  omega
 have e2:fK (x::xs) (some 1) none=xs:=by
  unfold fK
  rw [e1]
  show List.take (xs.length+1-1) (List.drop 1 (x::xs))=xs
  simp
 rcases h with h | h
 ·exact .inl ⟨a,_,rfl,SqL.of h,fun p hp=>q p _ hp (.inl (by rw [aa,e2]))⟩
 ·exact .inr (.inl ⟨a,_,rfl,SqT.of h,fun z=>by rw [e1] at z; exact absurd z.1 (by decide),fun p hp=>q p _ hp (.inr (by rw [aa,e2]))⟩)
theorem LT.b{K:WB}{H:Hp}{a:Addr}{xs:List V}(h:LT H a xs):∃ b,∀ H',al H H'→SqB b K H' a xs:=h.elim (fun h=>⟨true,fun H' s=>SqL.of (s _ _ h)⟩) fun h=>⟨false,fun H' s=>SqT.of (s _ _ h)⟩
theorem pe{fs:List ao}{S:Sco}:∀ {ds:List PyData} {ps:List Str},ds.length=ps.length→bI fs S ds ps=(List.zipWith (fun d p=>aV fs S d==some p) ds ps).all id
 | [],[],_=>rfl
 | [],_::_,h=>by cases h
 | _::_,[],h=>by cases h
 | d::ds,p::ps,h=>by
  rw [bI,List.zipWith_cons_cons,List.all_cons,pe (Nat.succ.inj h)]; rfl
section
abbrev cI:Stmt:=top 62
theorem zcq:ai ["_law_book_here","_law_thing","_law_meant_here","_law_sign_here"] lA0 (ag cI):=by walk_at "F"
abbrev cO:Stmt:=top 63
theorem zcr:ai lA2 lA2 (ag cO):=by walk_at "F"
inductive spKo(n:Nat)(vs:List V)(H:Hp)(Q:VK)(e3_:XK):Prop | mk (b m:Addr) (v:V) (ks:List Str) (ts:List aq) (fs:List ao) (S:Sco) (d:PyData) (_:vs=[.ref b,v,.ref m]) (_:BkR H b ks ts fs) (_:aU ks ts fs) (_:Rd0 H v d) (_:lq H m S) (_:d.depth≤n) (_:d.weight≤100000) (_:∀ H',al H H'→Q (hU (aV fs S d)) H')
inductive spTms(n:Nat)(vs:List V)(H:Hp)(Q:VK)(e3_:XK):Prop | mk (b a pl m:Addr) (x0:V) (xs:List V) (ks:List Str) (ts:List aq) (fs:List ao) (S:Sco) (ds:List PyData) (ps:List Str) (_:vs=[.ref b,.ref a,.ref pl,.ref m]) (_:BkR H b ks ts fs) (_:aU ks ts fs) (_:LT H a (x0::xs)) (_:aB H xs ds) (_:H pl=some (.lst (ps.map V.str))) (_:ps.length≤2) (_:lq H m S) (_:YQ ds≤n) (_:YG ds≤100000) (_:∀ H',al H H'→Q (.bl (bI fs S ds ps)) H')
theorem jL(F:ah K mg "_law_terms" cO lA2)(Z:Bl mg)(n_zip:mg "zip"=none)(n:Nat)(D_law_kind_of:Def P w K mg base "_law_kind_of" (2*n+2) lA0 (spKo n)):Def P w K mg base "_law_terms" (2*n+3) lA2 (spTms n):=by
 have SC:=zcr
 refine F.mk' (k:=2*n+2) zcr (fun vs H Q E h=>?_) (fun f cdv A outer s H vs Q E hr h=>?_)
 ·obtain⟨b,a,pl,m,x0,xs,ks,ts,fs,S,ds,ps,rfl,_⟩:=h
  rfl
 ·obtain⟨b,a,pl,m,x0,xs,ks,ts,fs,S,ds,ps,rfl,hb,ok,hL,hm,hp,h2,hS,hd,hw,q⟩:=h
  refine'⟨_,?dv,?_⟩
  case dv=>(have:=aj 30 308 118 132; have:=bB 308 15 147 2 ["_law_one","_law_place","_law_book_here","_law_thing","_law_places","_law_meant_here"]; walk_at "S2")
  have ml:=aB.length hm
  refine⟨_,rfl,a,_,rfl,hL.sq,_,rfl,pl,_,rfl,.inl (SqL.of hp),_,_,rfl,rfl,rfl,_,rfl,?_⟩
  by_cases hl:ds.length=ps.length
  rotate_left
  ·refine ifT (by simp; omega) ?_
   have:=q H (al.refl _)
   rw [pb hl] at this
   exact this
  refine ifF (by simp; omega) ?_
  refine⟨_,rfl,_,rfl,xt hL fun p o hp0 hLp=>?_⟩
  have s1:=ac hp0 o
  generalize upd H p o=H1 at s1 hLp
  obtain⟨b1,hb1⟩:=hLp.b (K:=K)
  refine⟨_,rfl,b1,true,p,pl,xs,ps.map V.str,rfl,hb1 _ (al.refl _),SqL.of (s1 _ _ hp),?_⟩
  intro cl C ex s0 H0
  refine rj (K:=K) (xs:=xs) (ys:=ps.map V.str) (by rw [YC]; omega) (YE (show xs.length≤2 by omega) (by decide)) (fun i zs H2=>al H1 H2∧zs=((List.zipWith (fun d p=>aV fs S d==some p) ds ps).take i).map V.bl) ⟨al.refl _,rfl⟩ (fun i zs H2 ⟨z,_⟩=>⟨hb1 _ z,SqL.of (z _ _ (s1 _ _ hp))⟩) ?_ ?_
  ·rintro i x y zs H2 H3 hx hy zl ⟨s2,rfl⟩ s3
   rw [YZ] at hy
   obtain⟨k,hk,rfl⟩:=YS.mp hy
   obtain⟨d,hd',hmt⟩:=aB.get hm hx
   have dt:=cH hd'
   have wt:=gl hd'
   have s03:=(s1.trans s2).trans s3
   refine⟨_,rfl,_,rfl,_,rfl,b,m,x,ks,ts,fs,S,d,rfl,hb.same s03,ok,Rd0.same hmt s03,hS.same s03,by omega,by omega,fun H4 s4=>⟨_,rfl,?_,(s2.trans s3).trans s4,?_⟩⟩
   ·cases aV fs S d <;> rfl
   ·rw [wK,Y7,List.getElem?_zipWith,hd',hk]
    simp
  ·rintro zs H2 zl ⟨s2,rfl⟩ D hD
   refine⟨D,_,rfl,SqL.of aa,?_⟩
   have:=q _ ((s1.trans s2).trans (ac hD (.lst (((List.zipWith (fun d p=>aV fs S d==some p) ds ps).take xs.length).map V.bl))))
   rw [pe hl] at this
   rw [XS (by rw [List.length_zipWith]; omega)] at this ⊢
   exact this
def nz:Nat→Sp
 | 0=>fun _ _ _ _=>False
 | n+1=>spTms n
theorem qi{m:Nat}{vs:List V}{H:Hp}{Q:VK}{E:XK}(h:spTms m vs H Q E):nz (m+1) vs H Q E:=h
theorem vJ(F:ah K mg "_law_terms" cO lA2):Def P w K mg base "_law_terms" 1 lA2 (nz 0):=
 F.mk' (k:=0) zcr (fun vs H Q E h=>False.elim h) fun f cdv A outer s H vs Q E hr h=>False.elim h
theorem lZ(F:ah K mg "_law_kind_of" cI lA0)(Z:Bl mg)(D_law_sign:Def P w K mg base "_law_sign" 1 lA9 iU)(n:Nat)(D_law_terms:Def P w K mg base "_law_terms" (2*n+1) lA2 (nz n)):Def P w K mg base "_law_kind_of" (2*n+2) lA0 (spKo n):=by
 have SC:=zcq
 refine F.mk' (k:=2*n+1) zcq (fun vs H Q E h=>?_) (fun f cdv A outer s H vs Q E hr h=>?_)
 ·obtain⟨b,m,v,ks,ts,fs,S,d,rfl,_⟩:=h
  rfl
 ·obtain⟨b,m,v,ks,ts,fs,S,d,rfl,hb,ok,hv,hS,hd,hw,q⟩:=h
  refine'⟨_,?dv,?_⟩
  case dv=>(have:=aj 2 297 7 34; have:=aj 10 304 11 28; have:=aj 10 301 31 48; have:=aj 27 301 50 63; have:=aj 1 299 11 48; have:=aj 2 299 81 111; have:=aj 27 299 92 105; have:=aj 10 302 76 93; walk_at "S2")
  obtain⟨ty,hty,hk⟩:=(Rd0.sh hv).isS (K:=K)
  by_cases hx:∃ z,d=.str z
  ·obtain⟨x0,rfl⟩:=hx
   cases hv
   obtain⟨kvs,e1,_,e2⟩:=id hS
   have hg:eA H m (.str x0) (bj kvs (.inr x0)):=eA.k (k:=.inr x0) e1
   rw [e2] at hg
   refine⟨_,rfl,_,ty,_,rfl,hty,hk,_,rfl,ifT rfl ?_⟩
   refine⟨_,rfl,m,rfl,.inl ⟨kvs,.inl e1⟩,_,rfl,_,hg,?_⟩
   have:=q H (al.refl _)
   rw [aV] at this
   cases hs:S x0 with
   | none=>rw [hs] at this; exact this
   | some k=>rw [hs] at this; exact this
  have hs:∀ z,d≠.str z:=fun z e=>hx ⟨z,e⟩
  have hst:dE v=false:=by cases hv <;> first | rfl | exact absurd rfl (hs _)
  rw [hst] at hk
  have none_of:cS d=none→∀ H',al H H'→Q .non H':=fun e H' s'=>by
   have:=q H' s'
   rw [iK e hs] at this
   exact this
  refine⟨_,rfl,_,ty,false,rfl,hty,hk,false,rfl,dz ?_⟩
  refine⟨_,rfl,by show 2≤sizeLine; decide,fun t ht=>?_⟩
  have st:=ac ht (.tup [.ty "list",.ty "tuple"])
  obtain⟨ty2,hty2,hk2⟩:=((Rd0.sh hv).same st).isi2 (K:=K)
  rw [(Rd0.sh hv).rows st,hv.rows] at hk2
  refine⟨_,t,ty2,_,rfl,aa,hty2,hk2,?_⟩
  generalize (upd H t (.tup [.ty "list",.ty "tuple"]))=H1 at st
  cases hkd:cn d with
  | none=>
   have hwn:cS d=none:=by cases d <;> first | rfl | cases hkd
   exact⟨_,rfl,ifT rfl (ifT rfl (none_of hwn _ st))⟩
  | some ds=>
  obtain⟨a,xs,rfl,hL,hm⟩:=hv.row hkd
  have hL1:=hL.same st
  refine⟨_,rfl,ifF (by simp) ⟨_,rfl,a,_,rfl,hL1.sq,rfl,_,rfl,?_⟩⟩
  cases hm with
  | nil=>
   have hwn:cS d=none:=by cases d <;> first | rfl | (cases hkd; rfl) | cases hkd
   exact ifT rfl (ifT rfl (none_of hwn _ st))
  | @cons x xs' d0 ds' h0 hm'=>
  obtain⟨ty3,hty3,hk3⟩:=(Rd0.sh (Rd0.same h0 st)).isS (K:=K)
  refine ifF (by simp; omega) ⟨_,rfl,bX hL1.sq (aH (x:=x) (by decide) rfl) ⟨_,_,_,rfl,hty3,hk3,_,rfl,?_⟩⟩
  by_cases hz:∃ z,d0=.str z
  rotate_left
  ·have hwn:cS d=none:=by
    cases d <;> first | rfl | (cases hkd; cases d0 <;> first | rfl | exact absurd ⟨_,rfl⟩ hz)
   have hs0:dE x=false:=by cases h0 <;> first | rfl | exact absurd ⟨_,rfl⟩ hz
   rw [hs0]
   exact ifT rfl (none_of hwn _ st)
  obtain⟨z,rfl⟩:=hz
  cases h0
  have hwt:cS d=some (z,ds'):=by cases d <;> first | (cases hkd; rfl) | cases hkd
  have hdp:=fo hwt
  have hkn:=ly (fs:=fs) (S:=S) hwt
  have hwA:YG ds'≤100000:=by
   obtain⟨_,bw⟩:=gy (n:=n) hkd (by omega) hw
   rw [YG] at bw
   omega
  refine ifF (show ¬ (!dE (V.str z))=true from YN) ?_
  obtain⟨kA,tA,fA,tv,fv,b1,k1,t1,t2,f1,f2⟩:=(hb.same st).open
  refine⟨_,rfl,b,_,_,_,rfl,rfl,SqT.of b1,rfl,_,rfl,bX hL1.sq (aH (x:=V.str z) (by decide) rfl) (.inr ⟨fA,fv,fs,z,rfl,f1,f2,fun hf=>?_,fun ps k pl p H2 hf ep epl s2=>?_⟩)⟩
  ·rw [hf] at hkn
   have:=q H1 st
   rw [hkn] at this
   exact⟨_,rfl,rfl,_,rfl,ifT rfl (ifT rfl this)⟩
  ·rw [hf] at hkn
   replace hkn:aV fs S d=if bI fs S ds' ps then some k else none:=hkn
   obtain⟨m',rfl⟩:∃ m',n=m'+1:=⟨n-1,by omega⟩
   obtain⟨t0,ht0,_,rfl,rfl⟩:=ig hf
   have s02:=st.trans s2
   refine⟨_,rfl,rfl,_,rfl,ifF (by simp) ?_⟩
   refine⟨_,rfl,_,rfl,_,rfl,p,_,_,_,rfl,rfl,SqT.of ep,rfl,_,rfl,?_⟩
   unfold fS
   refine qi (m:=m') (E:=E0) ⟨b,a,pl,m,.str z,xs',ks,ts,fs,S,ds',t0.ps,rfl,hb.same s02,ok,hL.same s02,aB.same hm' s02,epl,(ok.fn t0 ht0).2.1,hS.same s02,by omega,hwA,fun H3 s3=>?_⟩
   have:=q H3 (s02.trans s3)
   rw [hkn] at this
   cases hrow:bI fs S ds' t0.ps with
   | false=>
    rw [hrow] at this
    exact⟨_,rfl,ifT rfl this⟩
   | true=>
    rw [hrow] at this
    exact⟨_,rfl,ifF (by simp) ⟨_,rfl,p,_,_,_,rfl,rfl,SqT.of (s3 _ _ ep),rfl,this⟩⟩
theorem tN(F1:ah K mg "_law_kind_of" cI lA0)(F2:ah K mg "_law_terms" cO lA2)(Z:Bl mg)(n_zip:mg "zip"=none)(D_law_sign:Def P w K mg base "_law_sign" 1 lA9 iU):
  ∀ n,Def P w K mg base "_law_kind_of" (2*n+2) lA0 (spKo n)∧Def P w K mg base "_law_terms" (2*n+3) lA2 (spTms n)
 | 0=>
  have h:=lZ F1 Z D_law_sign 0 (vJ F2)
  ⟨h,jL F2 Z n_zip 0 h⟩
 | n+1=>
  have h:=lZ F1 Z D_law_sign (n+1) (tN F1 F2 Z n_zip D_law_sign n).2
  ⟨h,jL F2 Z n_zip (n+1) h⟩
end
theorem lS{K:WB}{H:Hp}{a:Addr}{x:V}{xs:List V}{i:Nat}{σ:St}{R:It→Hp→Prop}(h:LT H a (x::xs))(hv:σ[i]? = some (some (.ref a)))(k:∀ p o J,H p=none→q9 (upd H p o) p xs J→R J (upd H p o)):yz K (tSl (xz K) (tVar i) (wV (tC (.int 1))) oY) σ H R:=by
 have e1:HT.sIx (x::xs).length 0 (some 1)=1:=by
  show min (Int.toNat 1) (xs.length+1)=1
  have : Int.toNat 1=1:=rfl
  omega
 have e2:fK (x::xs) (some 1) none=xs:=by
  unfold fK
  rw [e1]
  show List.take (xs.length+1-1) (List.drop 1 (x::xs))=xs
  simp
 rcases h with h | h
 ·refine .inl ⟨_,hv,1,rfl,.inl ⟨a,_,rfl,SqL.of h,fun p hp=>⟨p,rfl,?_,?_⟩⟩⟩
  ·exact⟨_,SqL.of aa⟩
  ·rw [e2]
   exact k p _ _ hp ⟨fun i H' kp hi=>dF (SqL.of (kp _ aa)) hi,fun H' kp=>ck (SqL.of (kp _ aa))⟩
 ·refine .inr ⟨_,hv,1,rfl,.inr (.inl ⟨a,_,rfl,SqT.of h,fun z=>by rw [e1] at z; exact absurd z.1 (by decide),fun p hp=>⟨p,rfl,?_,?_⟩⟩)⟩
  ·exact⟨_,SqT.of aa⟩
  ·rw [e2]
   exact k p _ _ hp ⟨fun i H' kp hi=>kZ (SqT.of (kp _ aa)) hi,fun H' kp=>gr (SqT.of (kp _ aa))⟩
theorem uO(k:Str)(o:Option Str):decide (hU (some k)=hU o)=((some k).isSome&&some k==o):=by
 cases o with
 | none=>rfl
 | some k=>
  rw [X4]
  simp [hU]
theorem yC{fs:List ao}{S:Sco}:∀ {ds:List PyData},ds.length≠2→eqD fs S ds=false
 | [],_=>rfl
 | [_],_=>rfl
 | [_,_],h=>absurd rfl h
 | _::_::_::_,_=>rfl
theorem all_map{ks:List Str}{ts:List aq}{fs:List ao}{S:Sco}:∀ {ds:List PyData},bO ks ts fs ds S=(ds.map fun d=>bg ks ts fs d S).all id
 | []=>rfl
 | d::ds=>by rw [bO,Y9,List.all_cons,all_map (ds:=ds)]; rfl
theorem vg{H:Hp}{d:Addr}{S:Sco}{bb:Nat}{kvs:List (Key×V)}(e2:∀ x:Str,bj kvs (.inr x)=(S x).map V.str)(el:kvs.length≤bb)(hd:H d=none)(xn kd:Str):al H (upd (upd H d (.dK kvs)) d (.dK (cg kvs (.inr xn) (.str kd))))∧ScB (upd (upd H d (.dK kvs)) d (.dK (cg kvs (.inr xn) (.str kd)))) d (S.put xn kd) (bb+1):=by
 refine⟨fun c o e=>by rw [ae (af e hd)]; exact ac hd _ c o e,_,aa,YE (bz _ _ _) (by omega),fun y=>?_⟩
 rw [eK]
 unfold Sco.put
 by_cases hy:y=xn
 ·rw [if_pos (by rw [hy]),if_pos hy]; rfl
 ·rw [if_neg (fun z=>hy (Sum.inr.inj z)),if_neg hy]; exact e2 y
theorem uV{ks:List Str}{ts:List aq}{fs:List ao}{S:Sco}:∀ {ds:List PyData},ds.length≠3→dy ks ts fs ds S=false
 | [],_=>rfl
 | [d],_=>by cases d <;> rfl
 | [a,b],_=>by cases a <;> first | rfl | (cases b <;> rfl)
 | [_,_,_],h=>absurd rfl h
 | a::b::c::d::r,_=>by cases a <;> first | rfl | (cases b <;> rfl)
theorem oM{ks:List Str}{ts:List aq}{fs:List ao}{S:Sco}{xn:Str}{d1 d2:PyData}(h:∀ z,d1≠.str z):dy ks ts fs [.str xn,d1,d2] S=false:=by
 cases d1 with
 | str z=>exact absurd rfl (h z)
 | _=>rfl
section
abbrev cP:Stmt:=top 65
theorem zcs:ai ["_law_book_here","_law_thing","_law_meant_here","_law_inner"] lA0 (ag cP):=by walk_at "F"
abbrev bH:Stmt:=top 66
theorem zct:ai ["_law_book_here","_law_thing","_law_meant_here","_law_word","_law_kinds","_law_places"] lA0 (ag bH):=by walk_at "F"
inductive spIs(n:Nat)(vs:List V)(H:Hp)(Q:VK)(e3_:XK):Prop | mk (b m:Addr) (v:V) (ks:List Str) (ts:List aq) (fs:List ao) (S:Sco) (bb:Nat) (d:PyData) (_:vs=[.ref b,v,.ref m]) (_:BkR H b ks ts fs) (_:aU ks ts fs) (_:Rd0 H v d) (_:ScB H m S bb) (_:bb+n≤100) (_:d.depth≤n) (_:d.weight≤100000) (_:∀ H',al H H'→Q (.bl (bg ks ts fs d S)) H')
inductive spBd(n:Nat)(vs:List V)(H:Hp)(Q:VK)(e3_:XK):Prop | mk (b a m:Addr) (x0:V) (xs:List V) (ks:List Str) (ts:List aq) (fs:List ao) (S:Sco) (bb:Nat) (ds:List PyData) (_:vs=[.ref b,.ref a,.ref m]) (_:BkR H b ks ts fs) (_:aU ks ts fs) (_:LT H a (x0::xs)) (_:aB H xs ds) (_:ScB H m S bb) (_:bb+1+n≤100) (_:YQ ds≤n) (_:YG ds≤100000) (_:∀ H',al H H'→Q (.bl (dy ks ts fs ds S)) H')
theorem tS(F:ah K mg "_law_bound" cP lA0)(Z:Bl mg)(n_dict:mg "dict"=none)(D_law_name:Def P w K mg base "_law_name" 1 lA8 spNameE)(n k:Nat)(D_law_is_saying:Def P w K mg base "_law_is_saying" (k+1) lA0 (spIs n)):Def P w K mg base "_law_bound" (k+2) lA0 (spBd n):=by
 have SC:=zcs
 refine F.mk' (k:=k+1) zcs (fun vs H Q E h=>?_) (fun f cdv A outer s H vs Q E hr h=>?_)
 ·obtain⟨b,a,m,x0,xs,ks,ts,fs,S,bb,ds,rfl,_⟩:=h
  rfl
 ·obtain⟨b,a,m,x0,xs,ks,ts,fs,S,bb,ds,rfl,hb,ok,hL,hm,hS,hbb,hd,hw,q⟩:=h
  refine'⟨_,?dv,?_⟩
  case dv=>(have:=aj 27 317 32 45; have:=aj 27 317 15 28; have:=aj 27 318 42 55; have:=aj 2 314 68 98; have:=aj 27 314 104 117; have:=aj 10 314 125 142; have:=aj 27 314 45 58; have:=aj 27 314 79 92; have:=aj 15 317 4 45; walk_at "S2")
  have ml:=aB.length hm
  refine⟨_,rfl,a,_,rfl,hL.sq,rfl,_,rfl,?_⟩
  by_cases hl:ds.length=3
  rotate_left
  ·have:=q H (al.refl _)
   rw [uV hl] at this
   exact ifT (by simp; omega) (ifT rfl this)
  refine ifF (by simp; omega) ?_
  obtain⟨va,vb,vc,rfl⟩:∃ va vb vc,xs=[va,vb,vc]:=by
   match xs,ml.trans hl with
   | [a,b,c],_=>exact⟨a,b,c,rfl⟩
  cases hm with
  | @cons _ _ d0 _ m0 hm=>
  cases hm with
  | @cons _ _ d1 _ m1 hm=>
  cases hm with
  | @cons _ _ d2 _ m2 hm=>
  cases hm
  have dp2:d2.depth≤YQ [d0,d1,d2]:=cH (i:=2) rfl
  have w0:d0.weight<YG [d0,d1,d2]:=gl (i:=0) rfl
  have w2:d2.weight<YG [d0,d1,d2]:=gl (i:=2) rfl
  refine⟨_,rfl,bX hL.sq (aH (x:=va) (by decide) rfl) ⟨va,rfl,Rd0.sh m0,Rd0.len m0 (iX (by omega)),fun H1 s1=>⟨_,rfl,?_⟩⟩⟩
  cases hx:nmV va with
  | false=>
   have:=q H1 s1
   rw [mU m0 hx] at this
   exact ifT rfl (ifT rfl this)
  | true=>
  obtain⟨xn,rfl,rfl,hxn⟩:=tX m0 hx
  obtain⟨ty,hty,hk⟩:=(Rd0.sh (Rd0.same m1 s1)).isS (K:=K)
  refine ifF (by decide) ⟨_,rfl,bX (hL.same s1).sq (aH (x:=vb) (by decide) rfl) ⟨_,ty,_,rfl,hty,hk,_,rfl,?_⟩⟩
  by_cases hz:∃ z,d1=.str z
  rotate_left
  ·have hs0:dE vb=false:=by cases m1 <;> first | rfl | exact absurd ⟨_,rfl⟩ hz
   have:=q H1 s1
   rw [oM fun z e=>hz ⟨z,e⟩] at this
   rw [hs0]
   exact ifT rfl (ifT rfl this)
  obtain⟨kd,rfl⟩:=hz
  cases m1
  refine ifF (show ¬ (!dE (V.str kd))=true from YN) ?_
  obtain⟨kA,tA,fA,tv,fv,b1,k1,t1,t2,f1,f2⟩:=(hb.same s1).open
  refine⟨_,rfl,bX (hL.same s1).sq (aH (x:=V.str kd) (by decide) rfl) ⟨_,rfl,b,_,_,_,rfl,rfl,SqT.of b1,rfl,kA,_,rfl,.inl (SqL.of k1),rfl,dh ks,_,rfl,?_⟩⟩
  by_cases hkd:kd∈ks
  rotate_left
  ·have:=q H1 s1
   rw [gK,show ks.contains kd=false from by simpa using hkd] at this
   simp only [Bool.and_false,XZ] at this
   refine ifT ?_ this
   rw [cQ,decide_eq_false hkd]
   rfl
  have hbd:dy ks ts fs [.str xn,.str kd,d2] S=bg ks ts fs d2 (S.put xn kd):=by
   rw [gK,hxn,show ks.contains kd=true from by simpa using hkd]
   simp
  refine ifF ?_ ?_
  ·rw [cQ,decide_eq_true hkd]
   decide
  rw [hbd] at q
  obtain⟨kvs,e1,el,e2⟩:=hS.same s1
  refine⟨_,rfl,m,kvs,rfl,e1,fun d hd'=>?_⟩
  have s3:=ac hd' (.dK kvs)
  have s13:=s1.trans s3
  refine⟨_,rfl,bX (hL.same s13).sq (aH (x:=V.str kd) (by decide) rfl) ⟨_,rfl,_,rfl,bX (hL.same s13).sq (aH (x:=V.str xn) (by decide) rfl) ⟨d,_,rfl,oQ.k (k:=.inr xn) aa (Xz (show kvs.length≤100 by omega) (by decide)),?_⟩⟩⟩
  obtain⟨s4,eS⟩:=vg e2 el hd' xn kd
  generalize (upd (upd H1 d (.dK kvs)) d (.dK (cg kvs (.inr xn) (.str kd))))=H4 at s4 eS
  have s04:=s1.trans s4
  exact⟨_,rfl,_,rfl,bX (hL.same s04).sq (aH (x:=vc) (by decide) rfl) ⟨_,rfl,b,d,vc,ks,ts,fs,S.put xn kd,bb+1,d2,rfl,hb.same s04,ok,Rd0.same m2 s04,eS,by omega,by omega,by omega,fun H5 s5=>q H5 (s04.trans s5)⟩⟩
def rY:Nat→Sp
 | 0=>fun _ _ _ _=>False
 | n+1=>spIs n
def sd:Nat→Sp
 | 0=>fun _ _ _ _=>False
 | n+1=>spBd n
theorem rZ{m:Nat}{vs:List V}{H:Hp}{Q:VK}{E:XK}(h:spBd m vs H Q E):sd (m+1) vs H Q E:=h
theorem me(F:ah K mg "_law_is_saying" bH lA0)(Z:Bl mg)(D_law_sign:Def P w K mg base "_law_sign" 1 lA9 iU)(n:Nat)
  (D_law_kind_of:Def P w K mg base "_law_kind_of" (2*n+2) lA0 (spKo n)) (D_law_terms:Def P w K mg base "_law_terms" (2*n+3) lA2 (spTms n))
  (D_law_is_saying:Def P w K mg base "_law_is_saying" (2*n+2) lA0 (rY n)) (D_law_bound:Def P w K mg base "_law_bound" (2*n+3) lA0 (sd n)) :
  Def P w K mg base "_law_is_saying" (2*n+4) lA0 (spIs n):=by
 have SC:=zct
 refine F.mk' (k:=2*n+3) zct (fun vs H Q E h=>?_) (fun f cdv A outer s H vs Q E hr h=>?_)
 ·obtain⟨b,m,v,ks,ts,fs,S,bb,d,rfl,_⟩:=h
  rfl
 ·obtain⟨b,m,v,ks,ts,fs,S,bb,d,rfl,hb,ok,hv,hS,hbb,hd,hw,q⟩:=h
  refine'⟨_,?dv,?_⟩
  case dv=>(have:=aj 27 322 16 29; have:=aj 10 332 28 45; have:=aj 1 320 11 48; have:=aj 2 320 81 111; have:=aj 27 320 92 105; have:=aj 30 324 94 108; have:=aj 27 327 71 84; have:=aj 30 329 94 108; have:=bB 329 19 109 1 lC2; have:=aj 8 324 94 108; have:=aj 8 329 94 108; have:=bB 324 8 109 1 lC2; walk_at "S2")
  have none_of:cS d=none→∀ H',al H H'→Q (.bl false) H':=fun e H' s'=>by
   have:=q H' s'
   rw [gQ e] at this
   exact this
  refine⟨_,rfl,by show 2≤sizeLine; decide,fun t ht=>?_⟩
  have st:=ac ht (.tup [.ty "list",.ty "tuple"])
  obtain⟨ty2,hty2,hk2⟩:=((Rd0.sh hv).same st).isi2 (K:=K)
  rw [(Rd0.sh hv).rows st,hv.rows] at hk2
  refine⟨_,t,ty2,_,rfl,aa,hty2,hk2,?_⟩
  generalize (upd H t (.tup [.ty "list",.ty "tuple"]))=H1 at st
  cases hkd:cn d with
  | none=>
   have hwn:cS d=none:=by cases d <;> first | rfl | cases hkd
   exact⟨_,rfl,ifT rfl (ifT rfl (none_of hwn _ st))⟩
  | some ds=>
  obtain⟨a,xs,rfl,hL,hm⟩:=hv.row hkd
  have hL1:=hL.same st
  refine⟨_,rfl,ifF (by simp) ⟨_,rfl,a,_,rfl,hL1.sq,rfl,_,rfl,?_⟩⟩
  cases hm with
  | nil=>
   have hwn:cS d=none:=by cases d <;> first | rfl | (cases hkd; rfl) | cases hkd
   exact ifT rfl (ifT rfl (none_of hwn _ st))
  | @cons x xs' d0 ds' h0 hm'=>
  obtain⟨ty3,hty3,hk3⟩:=(Rd0.sh (Rd0.same h0 st)).isS (K:=K)
  refine ifF (by simp; omega) ⟨_,rfl,bX hL1.sq (aH (x:=x) (by decide) rfl) ⟨_,_,_,rfl,hty3,hk3,_,rfl,?_⟩⟩
  by_cases hz:∃ z,d0=.str z
  rotate_left
  ·have hwn:cS d=none:=by
    cases d <;> first | rfl | (cases hkd; cases d0 <;> first | rfl | exact absurd ⟨_,rfl⟩ hz)
   have hs0:dE x=false:=by cases h0 <;> first | rfl | exact absurd ⟨_,rfl⟩ hz
   rw [hs0]
   exact ifT rfl (none_of hwn _ st)
  obtain⟨w0,rfl⟩:=hz
  cases h0
  have hwt:cS d=some (w0,ds'):=by cases d <;> first | (cases hkd; rfl) | cases hkd
  have hdp:=fo hwt
  have hsd:=oU (ks:=ks) (ts:=ts) (fs:=fs) (S:=S) hwt
  have ml:=aB.length hm'
  have hwA:YG ds'≤100000:=by
   obtain⟨_,bw⟩:=gy (n:=n) hkd (by omega) hw
   rw [YG] at bw
   omega
  have wl:=d5 ds'
  obtain⟨n,rfl⟩:∃ m',n=m'+1:=⟨n-1,by omega⟩
  rw [hsd] at q
  refine ifF (show ¬ (!dE (V.str w0))=true from YN) ?_
  refine⟨_,rfl,bX hL1.sq (aH (x:=V.str w0) (by decide) rfl) ?_⟩
  refine⟨_,rfl,rfl,_,rfl,?_⟩
  by_cases hw1:w0="="
  ·refine ifT (decide_eq_true (by rw [hw1])) ?_
   subst hw1
   rw [show eB ks ts fs (.str "="::ds') S=eqD fs S ds' from rfl] at q
   refine lS hL1 rfl fun p o J hp0 O cl C ex s0 Hc=>O.comp (fun i ys H2=>al (upd H1 p o) H2∧ys=(ds'.take i).map fun d=>hU (aV fs S d)) ⟨al.refl _,rfl⟩ (YE (show xs'.length≤100000 by omega) (by decide)) (fun i ys H2 _ h2 o' e=>h2.1 _ _ e) ?_ ?_
   ·rintro i y ys H2 hy yl ⟨s2,rfl⟩
    obtain⟨d',hd',hmt⟩:=aB.get hm' hy
    have dt:=cH hd'
    have wt:=gl hd'
    have s02:=(st.trans (ac hp0 o)).trans s2
    refine⟨_,rfl,_,rfl,_,rfl,b,m,y,ks,ts,fs,S,d',rfl,hb.same s02,ok,Rd0.same hmt s02,(hS.same s02).at (by omega),by omega,by omega,fun H3 s3=>⟨s2.trans s3,?_⟩⟩
    rw [Y7,hd',Y1]; rfl
   ·rintro ys H2 yl ⟨s2,rfl⟩ D hD
    rw [ml,Y8]
    have s3:=ac hD (.lst (ds'.map fun d=>hU (aV fs S d)))
    have s03:=((st.trans (ac hp0 o)).trans s2).trans s3
    have qq:=q _ s03
    refine⟨_,rfl,D,_,rfl,.inl (SqL.of aa),rfl,_,rfl,?_⟩
    by_cases h2:ds'.length=2
    rotate_left
    ·rw [yC h2] at qq
     exact ifF (by simp; omega) qq
    obtain⟨da,db,rfl⟩:=Few.le2 h2
    refine ifT (by simp) ⟨_,rfl,D,_,0,hU (aV fs S da),rfl,rfl,SqL.of aa,rfl,rfl,_,rfl,?_⟩
    cases hka:aV fs S da with
    | none=>
     rw [eqD,hka] at qq
     exact ifF (by simp [hU]) qq
    | some k=>
     rw [eqD,hka] at qq
     refine ifT (by simp [hU]) ⟨_,rfl,D,_,0,hU (aV fs S da),rfl,rfl,SqL.of aa,rfl,_,rfl,D,_,1,hU (aV fs S db),rfl,rfl,SqL.of aa,rfl,?_,?_⟩
     ·rw [hka]; cases aV fs S db <;> rfl
     ·rw [hka,uO]; exact qq
  refine ifF (by simp; exact hw1) ?_
  have sub:∀ {H':Hp} {y:V} {d':PyData} {i:Nat} {R:VK},xs'[i]? = some y→ds'[i]? = some d'→al H H'→Rd0 H' y d'→(∀ H'',al H' H''→R (.bl (bg ks ts fs d' S)) H'')→rY (n+1) [.ref b,y,.ref m] H' R E0:=fun {H' y d' i R} hy hd' s' hmt k=>by
   have dt:=cH hd'
   have wt:=gl hd'
   exact⟨b,m,y,ks,ts,fs,S,bb,d',rfl,hb.same s',ok,hmt,hS.same s',by omega,by omega,by omega,k⟩
  refine⟨_,rfl,rfl,_,rfl,?_⟩
  by_cases hw2:w0="not"
  ·refine ifT (decide_eq_true (by rw [hw2])) ?_
   subst hw2
   rw [show eB ks ts fs (.str "not"::ds') S=(ds'.length==1&&bO ks ts fs ds' S) from rfl] at q
   refine⟨_,rfl,a,_,rfl,hL1.sq,rfl,_,rfl,?_⟩
   by_cases h1:ds'.length=1
   rotate_left
   ·have:=q H1 st
    rw [show (ds'.length==1)=false from beq_eq_false_iff_ne.mpr h1] at this
    exact ifF (by simp; omega) this
   obtain⟨da,rfl⟩:=Few.le1 h1
   obtain⟨va,rfl⟩:=Few.le1 ml
   cases hm' with
   | cons ma _=>
   refine ifT (by simp) ⟨_,rfl,_,rfl,bX hL1.sq (aH (x:=va) (by decide) rfl) ⟨_,rfl,?_⟩⟩
   unfold fS
   refine sub (i:=0) rfl rfl st (Rd0.same ma st) fun H2 s2=>?_
   have:=q H2 (st.trans s2)
   rw [show ([da].length==1&&bO ks ts fs [da] S)=(bg ks ts fs da S&&true) from rfl,Bool.and_true] at this
   exact this
  refine ifF (by simp; exact hw2) ⟨_,rfl,rfl,_,rfl,?_⟩
  by_cases hw3:w0="and"∨w0="or"
  ·refine gz ?body (fun _ h=>ifT rfl h) (fun hne h=>⟨_,rfl,rfl,_,rfl,ifT (decide_eq_true (by rcases hw3 with e | e; exact absurd (decide_eq_true (by rw [e])) hne; rw [e])) h⟩)
   rw [gY (by rcases hw3 with e | e <;> simp [e]) (fun e=>absurd e hw2),all_map] at q
   refine lS hL1 rfl fun p o J hp0 O cl C ex s0 Hc=>O.comp (fun i ys H2=>al (upd H1 p o) H2∧ys=((ds'.take i).map fun d=>bg ks ts fs d S).map V.bl) ⟨al.refl _,rfl⟩ (YE (show xs'.length≤100000 by omega) (by decide)) (fun i ys H2 _ h2 o' e=>h2.1 _ _ e) ?_ ?_
   ·rintro i y ys H2 hy yl ⟨s2,rfl⟩
    obtain⟨d',hd',hmt⟩:=aB.get hm' hy
    have s02:=(st.trans (ac hp0 o)).trans s2
    refine⟨_,rfl,_,rfl,_,rfl,?_⟩
    unfold fS
    refine sub hy hd' s02 (Rd0.same hmt s02) fun H3 s3=>⟨s2.trans s3,?_⟩
    rw [Y7,hd',Y1,Y1]; rfl
   ·rintro ys H2 yl ⟨s2,rfl⟩ D hD
    rw [ml,Y8]
    exact⟨D,_,rfl,SqL.of aa,q _ (((st.trans (ac hp0 o)).trans s2).trans (ac hD _))⟩
  refine ifF (fun e=>hw3 (.inl (V.str.inj (of_decide_eq_true e)))) ⟨_,rfl,rfl,_,rfl,ifF (fun e=>hw3 (.inr (V.str.inj (of_decide_eq_true e)))) ⟨_,rfl,rfl,_,rfl,?_⟩⟩
  by_cases hw4:w0="all"∨w0="some"
  ·refine gz ?body2 (fun _ h=>ifT rfl h) (fun hne h=>⟨_,rfl,rfl,_,rfl,ifT (decide_eq_true (by rcases hw4 with e | e; exact absurd (decide_eq_true (by rw [e])) hne; rw [e])) h⟩)
   rw [gZ (by rcases hw4 with e | e <;> simp [e])] at q
   refine⟨_,rfl,_,rfl,_,rfl,?_⟩
   unfold fS
   exact rZ (E:=E0) ⟨b,a,m,.str w0,xs',ks,ts,fs,S,bb,ds',rfl,hb.same st,ok,hL1,aB.same hm' st,hS.same st,by omega,by omega,hwA,fun H2 s2=>q H2 (st.trans s2)⟩
  refine ifF (fun e=>hw4 (.inl (V.str.inj (of_decide_eq_true e)))) ⟨_,rfl,rfl,_,rfl,ifF (fun e=>hw4 (.inr (V.str.inj (of_decide_eq_true e)))) ?_⟩
  rw [iY hw1 (by simp; exact⟨hw2,fun e=>hw3 (.inl e),fun e=>hw3 (.inr e)⟩) (by simp; exact⟨fun e=>hw4 (.inl e),fun e=>hw4 (.inr e)⟩)] at q
  obtain⟨kA,tA,fA,tv,fv,b1,k1,t1,t2,f1,f2⟩:=(hb.same st).open
  refine⟨_,rfl,b,_,_,_,rfl,rfl,SqT.of b1,rfl,_,rfl,.inl ⟨tA,tv,ts,w0,rfl,t1,t2,fun ht=>?_,fun ps pl ht epl=>?_⟩⟩
  ·have:=q H1 st
   rw [ht] at this
   exact⟨_,rfl,rfl,_,rfl,ifF (by simp) this⟩
  ·obtain⟨t0,ht0,_,rfl⟩:=gR ht
   refine⟨_,rfl,rfl,_,rfl,ifT (by simp) ⟨_,rfl,_,rfl,_,rfl,_,rfl,b,a,pl,m,.str w0,xs',ks,ts,fs,S,ds',t0.ps,rfl,hb.same st,ok,hL1,aB.same hm' st,epl,(ok.tn t0 ht0).2.1,(hS.same st).at (by omega),by omega,hwA,fun H2 s2=>?_⟩⟩
   have:=q H2 (st.trans s2)
   rw [ht] at this
   exact this
theorem yh(F:ah K mg "_law_is_saying" bH lA0):Def P w K mg base "_law_is_saying" 2 lA0 (rY 0):=
 F.mk' (k:=1) zct (fun vs H Q E h=>False.elim h) fun f cdv A outer s H vs Q E hr h=>False.elim h
theorem yj(F:ah K mg "_law_bound" cP lA0):Def P w K mg base "_law_bound" 3 lA0 (sd 0):=
 F.mk' (k:=2) zcs (fun vs H Q E h=>False.elim h) fun f cdv A outer s H vs Q E hr h=>False.elim h
theorem tP(F1:ah K mg "_law_is_saying" bH lA0)(F2:ah K mg "_law_bound" cP lA0)(Z:Bl mg)(n_dict:mg "dict"=none)(D_law_sign:Def P w K mg base "_law_sign" 1 lA9 iU)(D_law_name:Def P w K mg base "_law_name" 1 lA8 spNameE)
  (ko:∀ n,Def P w K mg base "_law_kind_of" (2*n+2) lA0 (spKo n)∧Def P w K mg base "_law_terms" (2*n+3) lA2 (spTms n)) :
  ∀ n,Def P w K mg base "_law_is_saying" (2*n+4) lA0 (spIs n)
 | 0=>me F1 Z D_law_sign 0 (ko 0).1 (ko 0).2 (yh F1) (yj F2)
 | n+1=>
  have ih:=tP F1 F2 Z n_dict D_law_sign D_law_name ko n
  me F1 Z D_law_sign (n+1) (ko (n+1)).1 (ko (n+1)).2 ih (tS F2 Z n_dict D_law_name n (2*n+3) ih)
end
theorem rC:∀ {ds:List PyData} {i:Nat} {d:PyData},bN ds=true→ds[i]? = some d→nh d=true
 | d::ds,0,_,h,e=>by cases e; simp only [bN,YW] at h; exact h.1
 | _::ds,i+1,d,h,e=>by simp only [bN,YW] at h; exact rC (ds:=ds) (i:=i) h.2 e
theorem rA{d:PyData}(h:nh d=true)(hs:∀ z,d≠.str z):∃ ds,cn d=some ds∧bN ds=true∧tupD d=.tuple (be ds):=by
 cases d with
 | str z=>exact absurd rfl (hs z)
 | list xs=>exact⟨xs,rfl,h,rfl⟩
 | tuple xs=>exact⟨xs,rfl,h,rfl⟩
 | _=>cases h
section
abbrev cw:Stmt:=top 67
theorem zcu:ai lA8 lA8 (ag cw):=by walk_at "F"
inductive spTup(n:Nat)(vs:List V)(H:Hp)(Q:VK)(e3_:XK):Prop | mk (v:V) (d:PyData) (_:vs=[v]) (_:Rd0 H v d) (_:nh d=true) (_:d.depth≤n) (_:d.weight≤100000) (_:∀ u H',Rd0 H' u (tupD d)→al H H'→Q u H')
def ny:Nat→Sp
 | 0=>fun _ _ _ _=>False
 | n+1=>spTup n
theorem qh{m:Nat}{vs:List V}{H:Hp}{Q:VK}{E:XK}(h:spTup m vs H Q E):ny (m+1) vs H Q E:=h
theorem i7(F:ah K mg "_law_tuples" cw lA8)(Z:Bl mg)(n:Nat)(D_law_tuples:Def P w K mg base "_law_tuples" (n+1) lA8 (ny n)):Def P w K mg base "_law_tuples" (n+2) lA8 (spTup n):=by
 have SC:=zcu
 refine F.mk' (k:=n+1) zcu (fun vs H Q E h=>?_) (fun f cdv A outer s H vs Q E hr h=>?_)
 ·obtain⟨v,d,rfl,_⟩:=h
  rfl
 ·obtain⟨v,d,rfl,hv,ht,hd,hw,q⟩:=h
  refine'⟨_,?dv,?_⟩
  case dv=>(have:=aj 2 335 7 34; have:=bB 337 17 67 1 ["_law_one","_law_thing"]; have:=aj 8 337 56 66; walk_at "S2")
  obtain⟨ty,hty,hk⟩:=(Rd0.sh hv).isS (K:=K)
  by_cases hx:∃ z,d=.str z
  ·obtain⟨x0,rfl⟩:=hx
   cases hv
   exact⟨_,rfl,_,ty,_,rfl,hty,hk,_,rfl,ifT rfl ⟨_,rfl,q _ H (.str _) (al.refl _)⟩⟩
  have hs:∀ z,d≠.str z:=fun z e=>hx ⟨z,e⟩
  have hst:dE v=false:=by cases hv <;> first | rfl | exact absurd rfl (hs _)
  rw [hst] at hk
  obtain⟨ds,hkd,hts,htd⟩:=rA ht hs
  obtain⟨a,xs,rfl,hL,hm⟩:=hv.row hkd
  obtain⟨m,rfl⟩:∃ m,n=m+1:=⟨n-1,by cases d <;> first | (rw [Y6] at hd; omega) | cases hkd⟩
  obtain⟨bd,bw⟩:=gy hkd hd hw
  have ml:=aB.length hm
  have wl:=d5 ds
  refine⟨_,rfl,_,ty,false,rfl,hty,hk,false,rfl,dz ?_⟩
  refine LT.over (K:=K) hL rfl fun J O cl C1 ex s0 Hc=>O.comp (fun i ys H2=>al H H2∧aB H2 ys (be (ds.take i))) ⟨al.refl _,.nil⟩ (YE (show xs.length≤100000 by omega) (by decide)) (fun i ys H2 _ h2 o e=>h2.1 _ _ e) ?_ ?_
  ·rintro i y ys H2 hy yl ⟨s2,t2⟩
   obtain⟨d',hd',hmt⟩:=aB.get hm hy
   have dt:=cH hd'
   have wt:=gl hd'
   refine⟨_,rfl,?_⟩
   unfold fS
   refine qh (E:=E0) ⟨y,d',rfl,Rd0.same hmt s2,rC hts hd',by omega,by omega,fun u H3 tu s3=>⟨s2.trans s3,?_⟩⟩
   rw [Y7,hd',bt,Y1,← bt]
   exact aB.snoc (aB.same t2 s3) tu
  ·rintro ys H2 yl ⟨s2,t2⟩ D hD
   rw [ml,Y8] at t2
   have s3:=ac hD (.lst ys)
   refine⟨D,ys,rfl,.inl ⟨SqL.of aa,fun t ht'=>?_⟩⟩
   have s4:=s3.trans (ac ht' (.tup ys))
   refine q _ _ ?_ (s2.trans s4)
   rw [htd]
   exact .tup trivial aa (aB.same t2 s4)
theorem sV(F:ah K mg "_law_tuples" cw lA8):Def P w K mg base "_law_tuples" 1 lA8 (ny 0):=
 F.mk' (k:=0) zcu (fun vs H Q E h=>False.elim h) fun f cdv A outer s H vs Q E hr h=>False.elim h
theorem pE(F:ah K mg "_law_tuples" cw lA8)(Z:Bl mg):∀ n,Def P w K mg base "_law_tuples" (n+2) lA8 (spTup n)
 | 0=>i7 F Z 0 (sV F)
 | n+1=>i7 F Z (n+1) (pE F Z n)
end
theorem Rd0.noS{K:WB}{H:Hp}{v:V}{d:PyData}(h:Rd0 H v d):NoS K H v:=by
 cases h with
 | non=>exact .flat rfl
 | bl b=>exact .flat rfl
 | int i=>exact .flat rfl
 | str x=>exact .flat rfl
 | lst _ e _=>exact .row (.inl (SqL.of e))
 | tup _ e _=>exact .row (.inr (SqT.of e))
 | d0 _ e=>exact .dct e
 | d1 _ e=>exact .dct e
section
abbrev cu:Stmt:=top 60
theorem zcv:ai ["_law_thing","_law_inner"] lA8 (ag cu):=by walk_at "F"
inductive spWin(n:Nat)(vs:List V)(H:Hp)(Q:VK)(e3_:XK):Prop | mk (v:V) (d:PyData) (_:vs=[v]) (_:Rd0 H v d) (_:d.depth≤n) (_:d.weight≤100000) (_:∀ (i:Int) H',al H H'→Q (.int i) H')
def nv:Nat→Sp
 | 0=>fun _ _ _ _=>False
 | n+1=>spWin n
theorem qg{m:Nat}{vs:List V}{H:Hp}{Q:VK}{E:XK}(h:spWin m vs H Q E):nv (m+1) vs H Q E:=h
theorem jK(F:ah K mg "_law_within" cu lA8)(Z:Bl mg)(n:Nat)(D_law_within:Def P w K mg base "_law_within" (n+1) lA8 (nv n)):Def P w K mg base "_law_within" (n+2) lA8 (spWin n):=by
 have SC:=zcv
 refine F.mk' (k:=n+1) zcv (fun vs H Q E h=>?_) (fun f cdv A outer s H vs Q E hr h=>?_)
 ·obtain⟨v,d,rfl,_⟩:=h
  rfl
 ·obtain⟨v,d,rfl,hv,hd,hw,q⟩:=h
  refine'⟨_,?dv,?_⟩
  case dv=>(have:=aj 31 289 17 78; have:=aj 1 287 11 48; have:=aj 25 289 21 77; have:=aj 32 290 52 84; have:=aj 27 290 52 65; have:=bB 289 27 77 1 ["_law_one","_law_thing","_law_inner"]; have:=aj 8 289 66 76; have:=aj 33 290 52 84; walk_at "S2")
  refine⟨_,rfl,by show 2≤sizeLine; decide,fun t ht=>?_⟩
  have st:=ac ht (.tup [.ty "list",.ty "tuple"])
  obtain⟨ty2,hty2,hk2⟩:=((Rd0.sh hv).same st).isi2 (K:=K)
  rw [(Rd0.sh hv).rows st,hv.rows] at hk2
  refine⟨_,t,ty2,_,rfl,aa,hty2,hk2,?_⟩
  generalize (upd H t (.tup [.ty "list",.ty "tuple"]))=H1 at st
  cases hkd:cn d with
  | none=>exact⟨_,rfl,ifT rfl (q _ _ st)⟩
  | some ds=>
  obtain⟨a,xs,rfl,hL,hm⟩:=hv.row hkd
  have hL1:=hL.same st
  obtain⟨m,rfl⟩:∃ m,n=m+1:=⟨n-1,by cases d <;> first | (rw [Y6] at hd; omega) | cases hkd⟩
  obtain⟨bd,bw⟩:=gy hkd hd hw
  have ml:=aB.length hm
  have wl:=d5 ds
  refine⟨_,rfl,ifF (by simp) ⟨by show 1≤sizeLine; decide,fun l1 hl1=>?_⟩⟩
  have s1:=st.trans (ac hl1 (.lst [.int 0]))
  have e1:(upd H1 l1 (.lst [.int 0])) l1=some (.lst [.int 0]):=aa
  generalize (upd H1 l1 (.lst [.int 0]))=H2 at s1 e1
  refine LT.over (K:=K) (hL.same s1) rfl fun J O cl C1 ex s0 Hc=>O.comp (fun i ys H3=>al H2 H3∧∃ ns:List Int,ys=ns.map V.int) ⟨al.refl _,[],rfl⟩ (YE (show xs.length≤100000 by omega) (by decide)) (fun i ys H3 _ h3 o e=>h3.1 _ _ e) ?_ ?_
  ·rintro i y ys H3 hy yl ⟨s3,ns,rfl⟩
   obtain⟨d',hd',hmt⟩:=aB.get hm hy
   have dt:=cH hd'
   have wt:=gl hd'
   refine⟨_,rfl,?_⟩
   unfold fS
   refine qg (E:=E0) ⟨y,d',rfl,Rd0.same hmt (s1.trans s3),by omega,by omega,fun i H4 s4=>⟨s3.trans s4,ns++[i],?_⟩⟩
   rw [Y1]; rfl
  ·rintro ys H3 yl ⟨s3,ns,rfl⟩ D hD
   have s4:=s3.trans (ac hD (.lst (ns.map V.int)))
   refine⟨l1,D,[.int 0],ns.map V.int,rfl,rfl,s4 _ _ e1,aa,YE (show 1+(ns.map V.int).length≤100001 by omega) (by decide),fun L hL'=>?_⟩
   have s5:=s4.trans (ac hL' (.lst ([.int 0]++ns.map V.int)))
   refine⟨L,0::ns,rfl,SqL.of aa,by simp,fun mx _=>?_⟩
   have s05:=s1.trans s5
   have hL5:=hL.same s05
   generalize (upd (upd H3 D (.lst (ns.map V.int))) L (.lst ([.int 0]++ns.map V.int)))=H5 at s05 hL5
   refine⟨_,rfl,_,rfl,a,_,rfl,hL5.sq,_,_,rfl,rfl,_,rfl,?_⟩
   cases hm with
   | nil=>exact ifF (by simp) (.inr ⟨false,rfl,_,_,rfl,rfl,q _ _ s05⟩)
   | @cons x xs' d0 ds' h0 hm'=>
   refine ifT (by simp) ⟨_,rfl,bX hL5.sq (aH (x:=x) (by decide) rfl) ⟨by show 2≤sizeLine; decide,fun t2 ht2=>?_⟩⟩
   have s6:=s05.trans (ac ht2 (.tup [.str "all",.str "some"]))
   exact⟨t2,lE0,rfl,SqT.of aa,Rd0.noS (Rd0.same h0 s6),.inr ⟨_,rfl,_,_,rfl,rfl,q _ _ s6⟩⟩
theorem vH(F:ah K mg "_law_within" cu lA8):Def P w K mg base "_law_within" 1 lA8 (nv 0):=
 F.mk' (k:=0) zcv (fun vs H Q E h=>False.elim h) fun f cdv A outer s H vs Q E hr h=>False.elim h
theorem sU(F:ah K mg "_law_within" cu lA8)(Z:Bl mg):∀ n,Def P w K mg base "_law_within" (n+2) lA8 (spWin n)
 | 0=>jK F Z 0 (vH F)
 | n+1=>jK F Z (n+1) (sU F Z n)
end
structure Pr(D W:Nat)(d:PyData):Prop where
 sh:d.showable=true
 dp:d.depth≤D
 lv:d.leavesShort 8=true
 wt:d.weight≤W
theorem Pr.mono{D D' W W':Nat}{d:PyData}(h:Pr D W d)(h1:D≤D')(h2:W≤W'):Pr D' W' d:=⟨h.sh,YE h.dp h1,h.lv,YE h.wt h2⟩
theorem Pr.all{D W:Nat}:∀ {ds:List PyData},(∀ d∈ds,Pr D W d)→XA ds=true∧YQ ds≤D∧Y5 8 ds=true∧YG ds≤ds.length*(W+1)
 | [],_=>by simp [XA,YQ,Y5,YG]
 | d::r,h=>by
  obtain⟨a1,a3,a4,a5⟩:=Pr.all (ds:=r) fun x hx=>h x (Y0 _ hx)
  have p:=h d YX
  refine⟨?_,?_,?_,?_⟩
  ·simp only [XA,p.sh,a1,Bool.and_self]
  ·simp only [YQ]
   have:=p.dp
   omega
  ·simp only [Y5,p.lv,a4,Bool.and_self]
  ·simp only [YG,YR,Nat.add_mul]
   have:=p.wt
   omega
theorem Pr.inv{D W:Nat}:∀ {ds:List PyData},XA ds=true→YQ ds≤D→Y5 8 ds=true→YG ds≤W→∀ d∈ds,Pr D W d
 | [],_,_,_,_,_,h=>nomatch h
 | d::r,h1,h2,h3,h4,x,hx=>by
  simp only [XA,YW] at h1
  simp only [YQ] at h2
  simp only [Y5,YW] at h3
  simp only [YG] at h4
  rcases YM.mp hx with rfl | hx
  ·exact⟨h1.1,by omega,h3.1,by omega⟩
  ·exact Pr.inv (ds:=r) h1.2 (by omega) h3.2 (by omega) x hx
theorem Pr.fits{D W:Nat}{d:PyData}(h:Pr D W d)(hD:D≤60)(hW:W≤2 ^ 20):d.showable=true∧d.depth≤60∧d.shown.length≤sizeLine:=
 ⟨h.sh,YE h.dp hD,PyData.shown_fits (B:=8) (by decide) (by decide) h.lv (YE h.wt hW)⟩
def ThR(R:Addr→Prop)(H:Hp)(n W:Nat)(v:V):Prop:=∃ d,RdD R H v d∧Pr n W d
theorem ThR.reg{R R':Addr→Prop}{H H':Hp}{n W:Nat}{v:V}(h:ThR R H n W v)(hR:∀ a,R a→R' a)(hH:∀ a o,R a→H a=some o→H' a=some o):ThR R' H' n W v:=let ⟨d,r,q⟩:=h; ⟨d,r.mono hR hH,q⟩
theorem ThR.mono{R:Addr→Prop}{H:Hp}{n W n' W':Nat}{v:V}(h:ThR R H n W v)(h1:n≤n')(h2:W≤W'):ThR R H n' W' v:=let ⟨d,r,q⟩:=h; ⟨d,r,q.mono h1 h2⟩
theorem rK{R:Addr→Prop}{H:Hp}{n W:Nat}:∀ {xs:List V},(∀ x∈xs,ThR R H n W x)→∃ ds,RdB R H xs ds∧(∀ d∈ds,Pr n W d)∧ds.length=xs.length
 | [],_=>⟨[],.nil,(fun _ z=>nomatch z),rfl⟩
 | x::r,h=>by
  obtain⟨d,r1,q1⟩:=h x YX
  obtain⟨ds,r2,q2,l2⟩:=rK (xs:=r) fun y hy=>h y (Y0 _ hy)
  refine⟨d::ds,.cons r1 r2,fun e he=>?_,by rw [YR,YR,l2]⟩
  rcases YM.mp he with rfl | he
  ·exact q1
  ·exact q2 e he
theorem ThR.row{R:Addr→Prop}{H:Hp}{n W m:Nat}{a:Addr}{xs:List V}(ha:R a)(h:LT H a xs)(hx:∀ x∈xs,ThR R H n W x)(hm:xs.length≤m):ThR R H (n+1) (m*(W+1)) (.ref a):=by
 obtain⟨ds,r,q,l⟩:=rK hx
 obtain⟨a1,a3,a4,a5⟩:=Pr.all q
 have:=Nat.mul_le_mul_right (W+1) (show ds.length≤m by omega)
 rcases h with h | h
 ·exact⟨_,.lst ha h r,by simpa only [XJ] using a1,by simp only [Y6]; omega,by simpa only [XG] using a4,by simp only [Y4]; omega⟩
 ·exact⟨_,.tup ha h r,by simpa only [XJ] using a1,by simp only [Y6]; omega,by simpa only [XG] using a4,by simp only [Y4]; omega⟩
theorem ThR.row'{R:Addr→Prop}{H:Hp}{n W m n' W':Nat}{a:Addr}{xs:List V}(ha:R a)(h:LT H a xs)(hx:∀ x∈xs,ThR R H n W x)(hm:xs.length≤m)(h1:n+1≤n')(h2:m*(W+1)≤W'):ThR R H n' W' (.ref a):=(ThR.row ha h hx hm).mono h1 h2
theorem ThR.ofStr{R:Addr→Prop}{H:Hp}{z:Str}{n:Nat}(h1:∀ c∈z.cps.toList,c<16 ^ 8)(h2:z.cps.size≤n):ThR R H 0 n (.str z):=
 ⟨_,.str z,rfl,by simp [Y6],by simp only [XG,XN,decide_eq_true_eq]; exact h1,h2⟩
def dI(z:Str):Bool:=z.cps.toList.all (fun c=>decide (c<16 ^ 8))&&decide (z.cps.size≤13)
theorem ThR.small{R:Addr→Prop}{H:Hp}{z:Str}(h:dI z=true):ThR R H 0 13 (.str z):=by
 unfold dI at h
 rw [YW,XN] at h
 exact ThR.ofStr (fun c hc=>of_decide_eq_true (h.1 c hc)) (of_decide_eq_true h.2)
theorem ThR.int7{R:Addr→Prop}{H:Hp}:ThR R H 0 13 (.int 7):=⟨_,.int 7,by decide +kernel,by decide +kernel,by decide +kernel,by decide +kernel⟩
theorem ThR.bool{R:Addr→Prop}{H:Hp}{b:Bool}:ThR R H 0 13 (.bl b):=⟨_,.bl b,rfl,by simp [Y6],rfl,by simp [Y4]⟩
theorem ThR.none{R:Addr→Prop}{H:Hp}:ThR R H 0 13 .non:=⟨_,.non,rfl,by simp [Y6],rfl,by simp [Y4]⟩
theorem ThR.d0{R:Addr→Prop}{a:Addr}{H:Hp}(h:R a)(e:H a=some (.dK [])):ThR R H 2 40 (.ref a):=⟨_,.d0 h e,by decide +kernel,by decide +kernel,by decide +kernel,by decide +kernel⟩
mutual
theorem xy{R:Addr→Prop}{H:Hp}:∀ {v:V} {d:PyData},RdD R H v d→RdD (fun a=>R a∧H a≠none) H v d
 | _,_,.non=>.non
 | _,_,.bl b=>.bl b
 | _,_,.int i=>.int i
 | _,_,.str z=>.str z
 | _,_,.lst r e z=>.lst ⟨r,by rw [e]; exact fun z=>nomatch z⟩ e (iG z)
 | _,_,.tup r e z=>.tup ⟨r,by rw [e]; exact fun z=>nomatch z⟩ e (iG z)
 | _,_,.d0 r e=>.d0 ⟨r,by rw [e]; exact fun z=>nomatch z⟩ e
 | _,_,.d1 r e=>.d1 ⟨r,by rw [e]; exact fun z=>nomatch z⟩ e
theorem iG{R:Addr→Prop}{H:Hp}:∀ {v:List V} {d:List PyData},RdB R H v d→RdB (fun a=>R a∧H a≠none) H v d
 | _,_,.nil=>.nil
 | _,_,.cons a r=>.cons (xy a) (iG r)
end
theorem RdB.set{R:Addr→Prop}{H:Hp}{u:V}{e:PyData}(h:RdD R H u e):∀ {xs:List V} {ds:List PyData} {i:Nat},RdB R H xs ds→RdB R H (xs.set i u) (ds.set i e)
 | _,_,_,.nil=>.nil
 | _,_,0,.cons _ r=>.cons h r
 | _,_,i+1,.cons a r=>.cons a (RdB.set h (i:=i) r)
theorem RdB.erase{R:Addr→Prop}{H:Hp}:∀ {xs:List V} {ds:List PyData} {i:Nat},RdB R H xs ds→RdB R H (xs.eraseIdx i) (ds.eraseIdx i)
 | _,_,_,.nil=>.nil
 | _,_,0,.cons _ r=>r
 | _,_,i+1,.cons a r=>.cons a (RdB.erase (i:=i) r)
theorem RdB.getD{R:Addr→Prop}{H:Hp}:∀ {xs:List V} {ds:List PyData} {i:Nat} {x:V},RdB R H xs ds→xs[i]? = some x→∃ d,ds[i]? = some d∧RdD R H x d
 | _,_,0,_,.cons h _,e=>by cases e; exact⟨_,rfl,h⟩
 | _,_,i+1,_,.cons _ r,e=>RdB.getD (i:=i) r e
 | _,_,_,_,.nil,e=>by cases e
theorem RdB.len{R:Addr→Prop}{H:Hp}:∀ {xs:List V} {ds:List PyData},RdB R H xs ds→xs.length=ds.length
 | _,_,.nil=>rfl
 | _,_,.cons _ r=>congrArg Nat.succ (RdB.len r)
def Prs(n:Nat)(ds:List PyData):Prop:=∀ d∈ds,d.showable=true∧d.leavesShort 8=true∧d.depth≤n
theorem Pr.kids{n W:Nat}{d:PyData}{ds:List PyData}(h:Pr (n+1) W d)(e:cn d=some ds):Prs n ds∧YG ds≤W:=by
 cases d with
 | list xs=>
  cases e
  have h1:=h.sh; have h2:=h.dp; have h3:=h.lv; have h4:=h.wt
  simp only [XJ] at h1; simp only [Y6] at h2; simp only [XG] at h3; simp only [Y4] at h4
  exact⟨fun d hd=>let p:=Pr.inv (D:=n) h1 (by omega) h3 h4 d hd; ⟨p.sh,p.lv,p.dp⟩,h4⟩
 | tuple xs=>
  cases e
  have h1:=h.sh; have h2:=h.dp; have h3:=h.lv; have h4:=h.wt
  simp only [XJ] at h1; simp only [Y6] at h2; simp only [XG] at h3; simp only [Y4] at h4
  exact⟨fun d hd=>let p:=Pr.inv (D:=n) h1 (by omega) h3 h4 d hd; ⟨p.sh,p.lv,p.dp⟩,h4⟩
 | _=>cases e
theorem kJ{n:Nat}:∀ {ds:List PyData},Prs n ds→XA ds=true∧YQ ds≤n∧Y5 8 ds=true
 | [],_=>by simp [XA,YQ,Y5]
 | d::r,h=>by
  obtain⟨a1,a3,a4⟩:=kJ (ds:=r) fun x hx=>h x (Y0 _ hx)
  obtain⟨p1,p2,p3⟩:=h d YX
  refine⟨?_,?_,?_⟩
  ·simp only [XA,p1,a1,Bool.and_self]
  ·simp only [YQ]; omega
  ·simp only [Y5,p2,a4,Bool.and_self]
theorem Prs.list{n W:Nat}{ds:List PyData}(h:Prs n ds)(hw:YG ds≤W):Pr (n+1) W (.list ds):=by
 obtain⟨a1,a3,a4⟩:=kJ h
 exact⟨by simpa only [XJ] using a1,by simp only [Y6]; omega,by simpa only [XG] using a4,by simpa only [Y4] using hw⟩
theorem Prs.tup{n W:Nat}{ds:List PyData}(h:Prs n ds)(hw:YG ds≤W):Pr (n+1) W (.tuple ds):=by
 obtain⟨a1,a3,a4⟩:=kJ h
 exact⟨by simpa only [XJ] using a1,by simp only [Y6]; omega,by simpa only [XG] using a4,by simpa only [Y4] using hw⟩
theorem rq{e:PyData}:∀ {ds:List PyData} {i:Nat} {d:PyData},ds[i]? = some d→YG (ds.set i e)+d.weight=YG ds+e.weight
 | d::ds,0,_,h=>by cases h; show YG (e::ds)+_=_; rw [YG,YG]; omega
 | x::ds,i+1,d,h=>by
  have:=rq (e:=e) (ds:=ds) (i:=i) h
  show YG (x::ds.set i e)+_=_
  rw [YG,YG]; omega
theorem lA:∀ {ds:List PyData} {i:Nat},YG (ds.eraseIdx i)≤YG ds
 | [],_=>YD _
 | d::ds,0=>by show YG ds≤_; rw [YG]; omega
 | x::ds,i+1=>by
  have:=lA (ds:=ds) (i:=i)
  show YG (x::ds.eraseIdx i)≤_
  rw [YG,YG]; omega
theorem oV{e:PyData}:∀ {ds:List PyData},YG (ds++[e])=YG ds+e.weight+1
 | []=>by simp only [List.nil_append,YG]; omega
 | d::ds=>by show YG (d::(ds++[e]))=_; rw [YG,YG,oV (ds:=ds)]; omega
theorem zcw:LD "_law_book_here":=by decide +kernel
theorem zcx:LS "_law_book_here":=by decide +kernel
theorem zcy:LD "_law_draw":=by decide +kernel
theorem zcz:LD "_law_menu":=by decide +kernel
theorem zc0:LS "_law_menu":=by decide +kernel
theorem zc1:LD "_law_name_here":=by decide +kernel
theorem zc2:LS "_law_name_here":=by decide +kernel
theorem zc3:LD "_law_names":=by decide +kernel
theorem zc4:LS "_law_names":=by decide +kernel
theorem zc5:LD "_law_pot_here":=by decide +kernel
theorem zc6:LS "_law_pot_here":=by decide +kernel
theorem zc7:LD "_law_sign_here":=by decide +kernel
theorem zc8:LS "_law_sign_here":=by decide +kernel
theorem zc9:LD "len":=by decide +kernel
theorem zda:LM "len":=by decide +kernel
theorem zdb:LD "list":=by decide +kernel
theorem zdc:LM "list":=by decide +kernel
theorem mn{z:Str}(h:cV z):dI z=true:=by
 unfold dI
 rw [YW,XN]
 refine⟨fun c hc=>decide_eq_true ?_,decide_eq_true ?_⟩
 ·have:=(h.2.2 c hc).2
  exact Xz this (by decide)
 ·have:=h.2.1
  rw [show z.cps.size=z.cps.toList.length by simp]
  omega
theorem th2{R:Addr→Prop}{H:Hp}{v:V}(h:ThR R H 0 13 v):ThR R H 2 40 v:=h.mono (by decide) (by decide)
theorem fR{R:Addr→Prop}{H:Hp}{a:Addr}{zs:List Str}(ra:R a)(h:LT H a (zs.map V.str))(hz:∀ z∈zs,dI z=true)(hl:zs.length≤2):ThR R H 2 40 (.ref a):=
 ThR.row' (m:=2) (n:=0) (W:=13) ra h (fun x hx=>by obtain⟨z,hm,rfl⟩:=XR.mp hx; exact ThR.small (hz z hm)) (by rw [YC]; exact hl) (by decide) (by decide)
theorem ThR.same{R:Addr→Prop}{H H':Hp}{n W:Nat}{v:V}(h:ThR R H n W v)(s:al H H'):ThR R H' n W v:=h.reg (fun _ z=>z) fun a o _ e=>s a o e
theorem jl{H H':Hp}{a:Addr}(s:al H H')(h:H' a=none):H a=none:=by
 cases e:H a with
 | none=>rfl
 | some o=>rw [s _ _ e] at h; cases h
def mj(t0 l0 d0 t1 t2 t3:Addr):List V:=[.str "x",.str "y",.str "all",.str "and",.str "not",.str "=",.str "r",.str "f",.str "",.int 7,.non,.bl true,.ref t0,.ref l0,.ref d0,.ref t1,.ref t2,.ref t3]
theorem vZ{R:Addr→Prop}{t0 l0 d0 t1 t2 t3:Addr}{G:Hp}(r0:R t0)(r1:R l0)(r2:R d0)(r3:R t1)(r4:R t2)(r5:R t3)(e0:G t0=some (.tup []))(e1:G l0=some (.lst []))(e2:G d0=some (.dK []))(e3:G t1=some (.tup [.str "x"]))(e4:G t2=some (.tup [.str "and"]))(e5:G t3=some (.tup [.str "or",.str "x"])):
  ∀ x∈mj t0 l0 d0 t1 t2 t3,ThR R G 2 40 x:=fun x hx=>by
 unfold mj at hx
 simp only [YM,XB,or_false] at hx
 have st:∀ z:Str,dI z=true→ThR R G 2 40 (.str z):=fun z h=>th2 (ThR.small h)
 rcases hx with rfl | rfl | rfl | rfl | rfl | rfl | rfl | rfl | rfl | rfl | rfl | rfl | rfl | rfl | rfl | rfl | rfl | rfl
 ·exact st _ (by decide +kernel)
 ·exact st _ (by decide +kernel)
 ·exact st _ (by decide +kernel)
 ·exact st _ (by decide +kernel)
 ·exact st _ (by decide +kernel)
 ·exact st _ (by decide +kernel)
 ·exact st _ (by decide +kernel)
 ·exact st _ (by decide +kernel)
 ·exact st _ (by decide +kernel)
 ·exact th2 ThR.int7
 ·exact th2 ThR.none
 ·exact th2 ThR.bool
 ·exact fR (zs:=[]) r0 (.inr e0) (fun _ z=>nomatch z) (by decide)
 ·exact fR (zs:=[]) r1 (.inl e1) (fun _ z=>nomatch z) (by decide)
 ·exact ThR.d0 r2 e2
 ·exact fR (zs:=["x"]) r3 (.inr e3) (by decide +kernel) (by decide)
 ·exact fR (zs:=["and"]) r4 (.inr e4) (by decide +kernel) (by decide)
 ·exact fR (zs:=["or","x"]) r5 (.inr e5) (by decide +kernel) (by decide)
structure cW(H G:Hp)(l:Addr)(k n:Nat):Prop where
 of ::
 ex:∃ xs,G l=some (.lst xs)∧k≤xs.length∧xs.length≤n∧∀ x∈xs,ThR (fun a=>H a=none) G 2 40 x
theorem cW.mk{H G:Hp}{l:Addr}{k n:Nat}{xs:List V}(e:G l=some (.lst xs))(h1:k≤xs.length)(h2:xs.length≤n)(h:∀ x∈xs,ThR (fun a=>H a=none) G 2 40 x):cW H G l k n:=⟨xs,e,h1,h2,h⟩
theorem cW.same{H G G':Hp}{l:Addr}{k n:Nat}(h:cW H G l k n)(s:al G G'):cW H G' l k n:=let ⟨xs,e,h1,h2,h3⟩:=h.ex; ⟨xs,s _ _ e,h1,h2,fun x hx=>(h3 x hx).same s⟩
theorem ib{H G:Hp}{l:Addr}{n:Nat}{zs:List Str}(e:G l=some (.lst (zs.map V.str)))(h:∀ z∈zs,dI z=true)(hn:zs.length≤n):cW H G l 0 n:=
 ⟨_,e,YO _,by rw [YC]; exact hn,fun x hx=>by obtain⟨z,hz,rfl⟩:=XR.mp hx; exact th2 (ThR.small (h z hz))⟩
theorem e6{H G:Hp}{a b:Addr}{k n k' n':Nat}{Q:VK}(ha:cW H G a k n)(hb:cW H G b k' n')(hs:n+n'≤1000)(q:∀ L G',al G G'→cW H G' L (k+k') (n+n')→Q (.ref L) G'):rCat (.ref a) (.ref b) G Q:=by
 obtain⟨xs,e1,l1,u1,h1⟩:=ha.ex
 obtain⟨ys,e2,l2,u2,h2⟩:=hb.ex
 refine⟨a,b,xs,ys,rfl,rfl,e1,e2,YE (show xs.length+ys.length≤1000 by omega) (by decide),fun L hL=>?_⟩
 have s:=ac hL (.lst (xs++ys))
 refine q L _ s ⟨_,aa,by rw [YY]; omega,by rw [YY]; omega,fun x hx=>?_⟩
 rcases Y3.mp hx with hx | hx
 ·exact(h1 x hx).same s
 ·exact(h2 x hx).same s
section
abbrev bh:Stmt:=top 58
theorem zdd:ai lB7 lC0 (ag bh):=⟨rfl,rfl,rfl,by decide +kernel,rfl,by decide +kernel,by decide +kernel⟩
theorem zde:LN .local bh "_law_book_here":=by decide +kernel
theorem zdf:LN .globalImplicit bh "_law_draw":=by decide +kernel
theorem zdg:LN .local bh "_law_menu":=by decide +kernel
theorem zdh:LN .local bh "_law_names":=by decide +kernel
theorem zdi:LN .local bh "_law_pot_here":=by decide +kernel
theorem zdj:LN .globalImplicit bh "len":=by decide +kernel
theorem zdk:LN .globalImplicit bh "list":=by decide +kernel
abbrev QS0:Scope:={kind:=PySem.ScopeKind.function,names:=[(PySem.Str.ofString ".0",PySem.NameKind.local),(PySem.Str.ofString "_law_name_here",PySem.NameKind.local)],isGenerator:=false,isCoroutine:=false,more:=[]:PySem.Scope}
theorem zdl:ik 1 lC7 lB7 (ag bh) QS0:=⟨rfl,by decide +kernel,by decide +kernel,by decide +kernel,by decide +kernel,rfl,by decide +kernel⟩
theorem zdm:LC .local QS0 "_law_name_here":=by decide +kernel
theorem zdn:ik 1 lC7 lB7 (ag bh) QS0:=⟨rfl,by decide +kernel,by decide +kernel,by decide +kernel,by decide +kernel,rfl,by decide +kernel⟩
theorem zdo:LC .local QS0 "_law_name_here":=by decide +kernel
abbrev QS1:Scope:={kind:=PySem.ScopeKind.function,names:=[(PySem.Str.ofString ".0",PySem.NameKind.local),(PySem.Str.ofString "_law_sign_here",PySem.NameKind.local)],isGenerator:=false,isCoroutine:=false,more:=[]:PySem.Scope}
theorem zdp:ik 1 ["_law_sign_here","_law_pot_here","_law_book_here","_law_menu","_law_names"] lB7 (ag bh) QS1:=⟨rfl,by decide +kernel,by decide +kernel,by decide +kernel,by decide +kernel,rfl,by decide +kernel⟩
theorem zdq:LC .local QS1 "_law_sign_here":=by decide +kernel
inductive spOdd(vs:List V)(H:Hp)(Q:VK)(e3_:XK):Prop | mk (p b:Addr) (ks:List Str) (ts:List aq) (fs:List ao) (_:vs=[.ref p,.ref b]) (_:bf H p) (_:fO H p b ks ts fs) (_:aU ks ts fs) (_:∀ v H',ThR (fun a=>H a=none) H' 2 40 v→aw p H H'→Q v H')
theorem ye(F:ah K mg "_law_odd" bh lC0)(Z:Bl mg)(D_law_draw:Def P w K mg base "_law_draw" 1 lA5 spDraw):Def P w K mg base "_law_odd" 2 lC0 spOdd:=by
 have SC:=zdd
 refine F.mk' (k:=1) zdd (fun vs H Q E h=>?_) (fun f cdv A outer s H vs Q E hr h=>?_)
 ·obtain⟨p,b,ks,ts,fs,rfl,_⟩:=h
  rfl
 ·obtain⟨p,b,ks,ts,fs,rfl,hp,hb,ok,q⟩:=h
  refine'⟨_,?dv,?_⟩
  case dv=>refine' au ?Aa ?Ba;(case Aa=>refine' aZ (i:=2) (x:=Str.ofString "_law_menu") ?Ca ?Da ?Ea ?Fa ?Ga ?Ha;(case Ca=>exact SC.nd);(case Da=>exact rfl);(case Ea=>exact(Or.inl zdg));(case Fa=>refine' dP ?Ia;case Ia=>refine' ad ?Ja ?Ka ?La;(case Ja=>exact aA);(case Ka=>refine' ad ?Ma ?Na ?Oa;(case Ma=>exact aA);(case Na=>refine' ad ?Pa ?Qa ?Ra;(case Pa=>exact aA);(case Qa=>refine' ad ?Sa ?Ta ?Ua;(case Sa=>exact aA);(case Ta=>refine' ad ?Va ?Wa ?Xa;(case Va=>exact aA);(case Wa=>refine' ad ?Ya ?Za ?Ab;(case Ya=>exact aA);(case Za=>refine' ad ?Bb ?Cb ?Db;(case Bb=>exact aA);(case Cb=>refine' ad ?Eb ?Fb ?Gb;(case Eb=>exact aA);(case Fb=>refine' ad ?Hb ?Ib ?Jb;(case Hb=>exact aA);(case Ib=>refine' ad ?Kb ?Lb ?Mb;(case Kb=>exact aX);(case Lb=>refine' ad ?Nb ?Ob ?Pb;(case Nb=>exact hJ);(case Ob=>refine' ad ?Qb ?Rb ?Sb;(case Qb=>exact eC);(case Rb=>refine' ad ?Tb ?Ub ?Vb;(case Tb=>refine' bq am);(case Ub=>refine' ad ?Wb ?Xb ?Yb;(case Wb=>refine' dP am);(case Xb=>refine' ad ?Zb ?Ac ?Bc;(case Zb=>exact gu);(case Ac=>refine' ad ?Cc ?Dc ?Ec;(case Cc=>refine' bq ?Fc;case Fc=>refine' ad ?Gc am ?Hc;(case Gc=>exact aA);case Hc=>rfl);(case Dc=>refine' ad ?Ic ?Jc ?Kc;(case Ic=>refine' bq ?Lc;case Lc=>refine' ad ?Mc am ?Nc;(case Mc=>exact aA);case Nc=>rfl);(case Jc=>refine' ad ?Oc am ?Pc;(case Oc=>refine' bq ?Qc;case Qc=>refine' ad ?Rc ?Sc ?Tc;(case Rc=>exact aA);(case Sc=>refine' ad ?Uc am ?Vc;(case Uc=>exact aA);case Vc=>rfl);case Tc=>rfl);case Pc=>rfl);case Kc=>rfl);case Ec=>rfl);case Bc=>rfl);case Yb=>rfl);case Vb=>rfl);case Sb=>rfl);case Pb=>rfl);case Mb=>rfl);case Jb=>rfl);case Gb=>rfl);case Db=>rfl);case Ab=>rfl);case Xa=>rfl);case Ua=>rfl);case Ra=>rfl);case Oa=>rfl);case La=>rfl);(case Ga=>rfl);case Ha=>exact .inl rfl);case Ba=>refine' au ?Wc ?Xc;(case Wc=>refine' aZ (i:=2) (x:=Str.ofString "_law_menu") ?Yc ?Zc ?Ad ?Bd ?Cd ?Dd;(case Yc=>exact SC.nd);(case Zc=>exact rfl);(case Ad=>exact(Or.inl zdg));(case Bd=>refine' dX eY (pq 2 (az zdg) zcz zc0) ?Ed;case Ed=>refine' dP ?Fd;case Fd=>refine' ad ?Gd ?Hd ?Id;(case Gd=>exact aA);(case Hd=>refine' ad ?Jd am ?Kd;(case Jd=>exact aA);case Kd=>rfl);case Id=>rfl);(case Cd=>rfl);case Dd=>exact .inl rfl);case Xc=>refine' au ?Ld ?Md;(case Ld=>refine' i4 (i:=3) (x:=Str.ofString "_law_names") SC.nd ?Nd (Or.inl zdh) ?Od tU ?Pd zdp.at ?Qd ?Rd ?Sd ?Td ?Ud;(case Nd=>exact rfl);(case Od=>exact rfl);(case Pd=>exact rfl);(case Qd=>refine' fz ?Vd;case Vd=>refine' dX eY ?Wd ?Xd;(case Wd=>refine' cY ix_tup (pq 1 (az zde) zcw zcx) ?Yd ?Zd;(case Yd=>exact aX);case Zd=>intro _ _;exact rfl);case Xd=>refine' cY ix_tup (pq 1 (az zde) zcw zcx) ?Ae ?Be;(case Ae=>exact aX);case Be=>intro _ _;exact rfl);(case Rd=>intro _ _ _ _ _;refine' d9 (i:=0) zdp.nd rfl (wm zdq) (.inr (lookup_relabel_local zdq)));(case Sd=>intro _ _ _ _ _;refine' cY ix_tup (pq 0 (rz zdq) zc7 zc8) ?Ce ?De;(case Ce=>exact aX);case De=>intro _ _;exact rfl);(case Td=>intro _; rfl);case Ud=>exact .inl rfl);case Md=>refine' au ?Ee ?Fe;(case Ee=>refine' aZ (i:=2) (x:=Str.ofString "_law_menu") ?Ge ?He ?Ie ?Je ?Ke ?Le;(case Ge=>exact SC.nd);(case He=>exact rfl);(case Ie=>exact(Or.inl zdg));(case Je=>refine' dX eY ?Me ?Ne;(case Me=>refine' dX eY ?Oe ?Pe;(case Oe=>refine' dX eY ?Qe (pq 3 (az zdh) zc3 zc4);case Qe=>refine' dX eY (pq 2 (az zdg) zcz zc0) ?Re;case Re=>refine' jI (hn:=zdc) (hdb:=zdb) ?Se zdk Z.n_list lj ?Te rfl rfl;(case Se=>exact gH);case Te=>refine' ad ?Ue am ?Ve;(case Ue=>refine' cY ix_tup (pq 1 (az zde) zcw zcx) ?We ?Xe;(case We=>exact aX);case Xe=>intro _ _;exact rfl);case Ve=>rfl);case Pe=>refine' kO tU rfl zdl.at ?Ye ?Ze ?Af ?Bf;(case Ye=>refine' fz (pq 3 (az zdh) zc3 zc4));(case Ze=>intro _ _ _ _ _;refine' d9 (i:=0) zdl.nd rfl (wm zdm) (.inr (lookup_relabel_local zdm)));(case Af=>intro _ _ _ _ _;refine' bq ?Cf;case Cf=>refine' ad (pq 0 (rz zdm) zc1 zc2) am ?Df;case Df=>rfl);case Bf=>intro _; rfl);case Ne=>refine' kO tU rfl zdn.at ?Ef ?Ff ?Gf ?Hf;(case Ef=>refine' fz (pq 3 (az zdh) zc3 zc4));(case Ff=>intro _ _ _ _ _;refine' d9 (i:=0) zdn.nd rfl (wm zdo) (.inr (lookup_relabel_local zdo)));(case Gf=>intro _ _ _ _ _;refine' bq ?If;case If=>refine' ad (pq 0 (rz zdo) zc1 zc2) ?Jf ?Kf;(case Jf=>refine' ad ?Lf am ?Mf;(case Lf=>exact aA);case Mf=>rfl);case Kf=>rfl);case Hf=>intro _; rfl);(case Ke=>rfl);case Le=>exact .inl rfl);case Fe=>refine' aL ?Nf;case Nf=>refine' cB ?Of;case Of=>refine' cY ix_list (pq 2 (az zdg) zcz zc0) ?Pf ?Qf;(case Pf=>refine' bx (hdb:=zcy) D_law_draw (hr.mono (by omega)) zdf ?Rf rfl rfl;case Rf=>refine' ad (pq 0 (az zdi) zc5 zc6) ?Sf ?Tf;(case Sf=>refine' ad ?Uf am ?Vf;(case Uf=>refine' aJ (hn:=zda) (hdb:=zc9) gJ zdj Z.n_len lm ?Wf rfl rfl;case Wf=>refine' ad (pq 2 (az zdg) zcz zc0) am ?Xf;case Xf=>rfl);case Vf=>rfl);case Tf=>rfl);case Qf=>intro _ _;exact rfl
  refine⟨YO _,fun t0 ht0=>⟨YO _,fun l0 hl0=>fun d0 hd0=>⟨by show 1≤sizeLine; decide,fun t1 ht1=>⟨by show 1≤sizeLine; decide,fun t2 ht2=>⟨by show 2≤sizeLine; decide,fun t3 ht3=>⟨by show 18≤sizeLine; decide,fun L hL=>?_⟩⟩⟩⟩⟩⟩
  have R0:H t0=none:=ht0
  have s0:=ac ht0 (.tup [])
  have R1:H l0=none:=jl s0 hl0
  have s1:=s0.trans (ac hl0 (.lst []))
  have R2:H d0=none:=jl s1 hd0
  have s2:=s1.trans (ac hd0 (.dK []))
  have R3:H t1=none:=jl s2 ht1
  have s3:=s2.trans (ac ht1 (.tup [.str "x"]))
  have R4:H t2=none:=jl s3 ht2
  have s4:=s3.trans (ac ht2 (.tup [.str "and"]))
  have R5:H t3=none:=jl s4 ht3
  have s5:=s4.trans (ac ht3 (.tup [.str "or",.str "x"]))
  have u5:=ac hL (.lst (mj t0 l0 d0 t1 t2 t3))
  have u4:=(ac ht3 (.tup [.str "or",.str "x"])).trans u5
  have u3:=(ac ht2 (.tup [.str "and"])).trans u4
  have u2:=(ac ht1 (.tup [.str "x"])).trans u3
  have u1:=(ac hd0 (.dK [])).trans u2
  have u0:=(ac hl0 (.lst [])).trans u1
  have sG:=s5.trans u5
  have hall:∀ x∈mj t0 l0 d0 t1 t2 t3,ThR (fun a=>H a=none) (upd (upd (upd (upd (upd (upd (upd H t0 (.tup [])) l0 (.lst [])) d0 (.dK [])) t1 (.tup [.str "x"])) t2 (.tup [.str "and"])) t3 (.tup [.str "or",.str "x"])) L (.lst (mj t0 l0 d0 t1 t2 t3))) 2 40 x:=
   vZ R0 R1 R2 R3 R4 R5 (u0 _ _ aa) (u1 _ _ aa) (u2 _ _ aa) (u3 _ _ aa) (u4 _ _ aa) (u5 _ _ aa)
  have eL:(upd (upd (upd (upd (upd (upd (upd H t0 (.tup [])) l0 (.lst [])) d0 (.dK [])) t1 (.tup [.str "x"])) t2 (.tup [.str "and"])) t3 (.tup [.str "or",.str "x"])) L (.lst (mj t0 l0 d0 t1 t2 t3))) L=some (.lst (mj t0 l0 d0 t1 t2 t3)):=aa
  have m0:=cW.mk (H:=H) (k:=18) (n:=18) eL (YD 18) (YD 18) hall
  clear u0 u1 u2 u3 u4 u5 hall eL
  unfold mj at m0 sG
  generalize (upd _ L _)=G at m0 sG
  refine⟨_,rfl,by show 2≤sizeLine; decide,fun L1 hL1=>?_⟩
  have v1:=ac hL1 (.lst [.str "abcdefghijklm",.str "X"])
  refine e6 (m0.same v1) (ib (zs:=["abcdefghijklm","X"]) aa (by decide +kernel) (YD 2)) (by decide) fun L2 G2 s6 m2=>?_
  have sG2:=(sG.trans v1).trans s6
  have hbR:BkR H b ks ts fs:=RdV.mono (fun _ _=>trivial) (fun a o _ e=>e) hb
  obtain⟨kA,tA,fA,tv,fv,b1,k1,ta1,ta2,f1,f2⟩:=(hbR.same sG2).open
  have sl:=ok.sl
  have tvl:tv.length=ts.length:=by rw [ta2.length,YC]
  have fvl:fv.length=fs.length:=by rw [f2.length,YC]
  refine⟨_,rfl,b,_,_,_,rfl,rfl,SqT.of b1,rfl,_,rfl,b,_,_,_,rfl,rfl,SqT.of b1,rfl,tA,fA,tv,fv,rfl,rfl,ta1,f1,YE (show tv.length+fv.length≤8 by omega) (by decide),fun L3 hL3=>⟨L3,rfl,⟨_,SqL.of aa⟩,?_⟩⟩
  have s7:=ac hL3 (.lst (tv++fv))
  have e3:(upd G2 L3 (.lst (tv++fv))) L3=some (.lst (tv++fv)):=aa
  have sg:∀ y∈tv++fv,∃ py z r,y=.ref py∧G2 py=some (.tup (.str z::r))∧cV z:=fun y hy=>by
   rcases Y3.mp hy with hy | hy
   ·obtain⟨i,hi⟩:=List.getElem?_of_mem hy
    obtain⟨t,py,pp,ht,rfl,h1,_⟩:=pG ta2 hi
    exact⟨py,t.nm,_,rfl,h1,(ok.tn t (YU ht)).1.1⟩
   ·obtain⟨i,hi⟩:=List.getElem?_of_mem hy
    obtain⟨t,py,pp,ht,rfl,h1,_⟩:=pH f2 hi
    exact⟨py,t.nm,_,rfl,h1,(ok.fn t (YU ht)).1.1⟩
  generalize (upd G2 L3 (.lst (tv++fv)))=G3 at s7 e3
  have lall:(tv++fv).length≤8:=by rw [YY]; omega
  intro cl C ex s00 H00
  refine bi (tv++fv).length (fun i ys H2=>H2=G3∧∃ zs:List Str,ys=zs.map V.str∧∀ z∈zs,cV z) (fun i y=>(tv++fv)[i]? = some y) ⟨rfl,[],rfl,fun _ z=>nomatch z⟩ (YE lall (by decide)) (fun i ys H2 hi _ h=>dF (SqL.of (by rw [h.1]; exact e3)) hi) (fun ys H2 _ h=>ck (SqL.of (by rw [h.1]; exact e3))) ?_ ?_
  ·rintro i y ys H2 hi hy yl ⟨rfl,zs,rfl,hz⟩
   obtain⟨py,z,r,rfl,h1,h2⟩:=sg y (YU hy)
   refine⟨_,rfl,py,_,_,_,rfl,rfl,SqT.of (s7 _ _ h1),aH (x:=V.str z) (by decide) rfl,rfl,zs++[z],by rw [Y1]; rfl,fun u hu=>?_⟩
   rcases Y3.mp hu with hu | hu
   ·exact hz u hu
   ·rw [YK.mp hu]; exact h2
  rintro ys H2 yl ⟨rfl,zs,rfl,hz⟩ N hN
  rw [YC] at yl
  have s8:=ac hN (.lst (zs.map V.str))
  have sN:=(sG2.trans s7).trans s8
  have eN:(upd H2 N (.lst (zs.map V.str))) N=some (.lst (zs.map V.str)):=aa
  have m4:=m2.same (s7.trans s8)
  have zsm:∀ z∈zs,dI z=true:=fun z h=>mn (hz z h)
  clear s8
  generalize (upd H2 N (.lst (zs.map V.str)))=G4 at sN eN m4
  obtain⟨kA,tA,fA,tv,fv,b1,k1,_⟩:=(hbR.same sN).open
  refine⟨_,rfl,_,rfl,b,_,_,_,rfl,rfl,SqT.of b1,rfl,kA,_,rfl,.inl (SqL.of k1),fun L5 hL5=>?_⟩
  have s9:=ac hL5 (.lst (ks.map V.str))
  refine e6 (m4.same s9) (ib (zs:=ks) aa (fun z h=>mn (ok.kn2 z h)) ok.k4) (by decide) fun L6 G6 s10 m6=>⟨_,rfl,?_⟩
  have t6:=s9.trans s10
  refine e6 m6 (ib (zs:=zs) (t6 _ _ eN) zsm (show zs.length≤8 by omega)) (by decide) fun L7 G7 s11 m7=>?_
  have t7:=t6.trans s11
  have sN7:=sN.trans t7
  refine⟨_,rfl,N,rfl,⟨_,SqL.of (t7 _ _ eN)⟩,?_⟩
  intro cl C ex s00 H00
  refine bi (zs.map V.str).length (fun i ys H3=>al G7 H3∧∀ y∈ys,ThR (fun a=>H a=none) H3 2 40 y) (fun i y=>(zs.map V.str)[i]? = some y) ⟨al.refl _,fun _ z=>nomatch z⟩ (by rw [YC]; exact YE (show zs.length≤8 by omega) (by decide)) (fun i ys H3 hi _ h=>dF (SqL.of (h.1 _ _ (t7 _ _ eN))) hi) (fun ys H3 _ h=>ck (SqL.of (h.1 _ _ (t7 _ _ eN)))) ?_ ?_
  ·rintro i y ys H3 hi hy yl ⟨s12,h12⟩
   rw [YZ] at hy
   obtain⟨z,hzi,rfl⟩:=YS.mp hy
   refine⟨_,rfl,by show 1≤sizeLine; decide,fun t ht=>⟨s12.trans (ac ht _),fun y hy=>?_⟩⟩
   rcases Y3.mp hy with hy | hy
   ·exact(h12 y hy).same (ac ht _)
   ·rw [YK.mp hy]
    exact fR (zs:=[z]) (jl (sN7.trans s12) ht) (.inr aa) (fun u hu=>by rw [YK.mp hu]; exact zsm z (YU hzi)) (Nat.le_succ 1)
  rintro ys H3 yl3 ⟨s12,h12⟩ D1 hD1
  have s13:=s12.trans (ac hD1 (.lst ys))
  rw [YC] at yl3
  refine e6 (m7.same s13) (cW.mk (k:=0) (n:=8) aa (YO _) (by omega) fun y hy=>(h12 y hy).same (ac hD1 _)) (by decide) fun L8 G8 s14 m8=>?_
  have t8:=t7.trans (s13.trans s14)
  have sN8:=sN.trans t8
  refine⟨_,rfl,N,rfl,⟨_,SqL.of (t8 _ _ eN)⟩,?_⟩
  intro cl C ex s00 H00
  refine bi (zs.map V.str).length (fun i ys H3=>al G8 H3∧∀ y∈ys,ThR (fun a=>H a=none) H3 2 40 y) (fun i y=>(zs.map V.str)[i]? = some y) ⟨al.refl _,fun _ z=>nomatch z⟩ (by rw [YC]; exact YE (show zs.length≤8 by omega) (by decide)) (fun i ys H3 hi _ h=>dF (SqL.of (h.1 _ _ (t8 _ _ eN))) hi) (fun ys H3 _ h=>ck (SqL.of (h.1 _ _ (t8 _ _ eN)))) ?_ ?_
  ·rintro i y ys H3 hi hy yl ⟨s12,h12⟩
   rw [YZ] at hy
   obtain⟨z,hzi,rfl⟩:=YS.mp hy
   refine⟨_,rfl,by show 2≤sizeLine; decide,fun t ht=>⟨s12.trans (ac ht _),fun y hy=>?_⟩⟩
   rcases Y3.mp hy with hy | hy
   ·exact(h12 y hy).same (ac ht _)
   ·rw [YK.mp hy]
    refine fR (zs:=[z,"x"]) (jl (sN8.trans s12) ht) (.inr aa) (fun u hu=>?_) (YD 2)
    rcases YM.mp hu with rfl | hu
    ·exact zsm _ (YU hzi)
    ·rw [YK.mp hu]; decide +kernel
  rintro ys H4 yl4 ⟨s15,h15⟩ D2 hD2
  have s16:=s15.trans (ac hD2 (.lst ys))
  rw [YC] at yl4
  refine e6 (m8.same s16) (cW.mk (k:=0) (n:=8) aa (YO _) (by omega) fun y hy=>(h15 y hy).same (ac hD2 _)) (by decide) fun L9 G9 s17 m9=>?_
  have sN9:=sN8.trans (s16.trans s17)
  obtain⟨xs,eX,lo,hi,hx⟩:=m9
  have w9:aw p H G9:=⟨hp.keep sN9,sN9.x⟩
  refine⟨_,rfl,_,rfl,_,rfl,L9,_,rfl,.inl (SqL.of eX),p,_,rfl,w9.pot,by omega,by omega,fun r H9 r0 r1 p9 s18=>?_⟩
  have hr9:r.toNat<xs.length:=by omega
  have nL:L9≠p:=f8 w9.pot eX fun x y z e=>by cases e; simp at lo
  refine⟨L9,xs,r,xs[r.toNat],rfl,rfl,SqL.of (s18 _ _ nL eX),aH r0 (by simp [hr9]),q _ _ ?_ (w9.mk1 p9 s18)⟩
  exact(hx _ (XL hr9)).reg (fun _ z=>z) fun a o za e=>s18 a o (fun z=>by obtain⟨x,e'⟩:=hp.some; rw [z,e'] at za; cases za) e
end
mutual
def dH(k:Nat):PyData→Prop
 | .list xs=>xs.length≤k∧bY k xs
 | .tuple xs=>xs.length≤k∧bY k xs
 | _=>True
def bY(k:Nat):List PyData→Prop
 | []=>True
 | d::ds=>dH k d∧bY k ds
end
mutual
theorem dR{k k':Nat}(h:k≤k'):∀ {d:PyData},dH k d→dH k' d
 | .list xs,z=>by rw [dH] at z ⊢; exact⟨YE z.1 h,gP h z.2⟩
 | .tuple xs,z=>by rw [dH] at z ⊢; exact⟨YE z.1 h,gP h z.2⟩
 | .str _,_=>trivial
 | .none,_=>trivial
 | .bool _,_=>trivial
 | .int _,_=>trivial
 | .dict _,_=>trivial
theorem gP{k k':Nat}(h:k≤k'):∀ {ds:List PyData},bY k ds→bY k' ds
 | [],_=>trivial
 | d::ds,z=>by rw [bY] at z ⊢; exact⟨dR h z.1,gP h z.2⟩
end
mutual
theorem m5{k:Nat}:∀ {d:PyData},d.weight≤k→dH k d
 | .list xs,h=>by rw [Y4] at h; rw [dH]; exact⟨YE (d5 xs) h,kf h⟩
 | .tuple xs,h=>by rw [Y4] at h; rw [dH]; exact⟨YE (d5 xs) h,kf h⟩
 | .str _,_=>trivial
 | .none,_=>trivial
 | .bool _,_=>trivial
 | .int _,_=>trivial
 | .dict _,_=>trivial
theorem kf{k:Nat}:∀ {ds:List PyData},YG ds≤k→bY k ds
 | [],_=>trivial
 | d::ds,h=>by rw [YG] at h; rw [bY]; exact⟨m5 (by omega),kf (by omega)⟩
end
theorem wids_mem{k:Nat}:∀ {ds:List PyData},bY k ds↔∀ d∈ds,dH k d
 | []=>⟨(fun _ _ z=>nomatch z),fun _=>trivial⟩
 | d::ds=>by
  rw [bY,wids_mem (ds:=ds)]
  constructor
  ·rintro⟨h1,h2⟩ x hx
   rcases YM.mp hx with rfl | hx
   ·exact h1
   ·exact h2 x hx
  ·exact fun h=>⟨h d YX,fun x hx=>h x (Y0 _ hx)⟩
theorem rp{k:Nat}{d:PyData}{ds:List PyData}(h:dH k d)(e:cn d=some ds):ds.length≤k∧∀ x∈ds,dH k x:=by
 cases d <;> first | (cases e; rw [dH] at h; exact⟨h.1,wids_mem.mp h.2⟩) | cases e
theorem vj{R:Addr→Prop}{H:Hp}{v:V}{d:PyData}{ds:List PyData}(h:RdD R H v d)(e:cn d=some ds):∃ a xs,v=.ref a∧LT H a xs∧RdB R H xs ds:=by
 cases h with
 | lst _ e1 r=>cases e; exact⟨_,_,rfl,.inl e1,r⟩
 | tup _ e1 r=>cases e; exact⟨_,_,rfl,.inr e1,r⟩
 | _=>cases e
theorem cA{R:Addr→Prop}{H:Hp}{v:V}{d:PyData}(h:RdD R H v d):Rd0 H v d:=h.mono (fun _ _=>trivial) fun _ _ _ e=>e
section
abbrev cx:Stmt:=top 59
theorem zdr:ai ["_law_pot_here","_law_book_here","_law_thing","_law_made","_law_at","_law_way"] lA6 (ag cx):=by walk_at "F"
inductive spSpo(n:Nat)(vs:List V)(H:Hp)(Q:VK)(e3_:XK):Prop | mk (p b:Addr) (v:V) (ks:List Str) (ts:List aq) (fs:List ao) (R:Addr→Prop) (d:PyData) (n0 W k:Nat) (_:n0≤n) (_:vs=[.ref p,.ref b,v]) (_:bf H p) (_:fO H p b ks ts fs) (_:aU ks ts fs) (_:(∀ a,H a=none→R a)) (_:(∀ a,R a→a≠p)) (_:RdD R H v d) (_:Pr n0 W d) (_:dH k d) (_:40≤k) (_:k≤100) (_:∀ u H' d',RdD R H' u d'→Pr (n0+2) (W+50) d'→dH (k+1) d'→aw p H H'→Q u H')
def nE:Nat→Sp
 | 0=>fun _ _ _ _=>False
 | n+1=>spSpo n
theorem qk{m:Nat}{vs:List V}{H:Hp}{Q:VK}{E:XK}(h:spSpo m vs H Q E):nE (m+1) vs H Q E:=h
theorem jO(F:ah K mg "_law_spoilt" cx lA6)(Z:Bl mg)(D_law_draw:Def P w K mg base "_law_draw" 1 lA5 spDraw)(D_law_odd:Def P w K mg base "_law_odd" 2 lC0 spOdd)(n:Nat)
  (D_law_spoilt:Def P w K mg base "_law_spoilt" (n+2) lA6 (nE n)):Def P w K mg base "_law_spoilt" (n+3) lA6 (spSpo n):=by
 have SC:=zdr
 refine F.mk' (k:=n+2) zdr (fun vs H Q E h=>?_) (fun f cdv A outer s H vs Q E hr h=>?_)
 ·obtain⟨p,b,v,ks,ts,fs,R,d,n0,W,k,_,rfl,_⟩:=h
  rfl
 ·obtain⟨p,b,v,ks,ts,fs,R,d,n0,W,k,n0n,rfl,hp,hb,ok,hR,hRp,hv,hpr,hwd,k40,k100,q⟩:=h
  refine'⟨_,?dv,?_⟩
  case dv=>(have:=aj 1 274 11 48; walk_at "S2")
  have oddS:∀ H1,aw p H H1→spOdd [.ref p,.ref b] H1 Q E0:=fun H1 w1=>⟨p,b,ks,ts,fs,rfl,w1.pot,RdV.went hb w1.same,ok,fun u H' ⟨d',r',p'⟩ w'=>q u H' d' (r'.mono (fun a z=>hR a (w1.free z)) fun a o _ e=>e) (p'.mono (by omega) (by omega)) (m5 (YE p'.wt (by omega))) (w1.trans w')⟩
  refine⟨_,rfl,by show 2≤sizeLine; decide,fun t ht=>?_⟩
  have st:=ac ht (.tup [.ty "list",.ty "tuple"])
  have wt:aw p H _:=(aw.refl hp).new ht (.tup [.ty "list",.ty "tuple"])
  have hv0:=cA hv
  obtain⟨ty2,hty2,hk2⟩:=((Rd0.sh hv0).same st).isi2 (K:=K)
  rw [(Rd0.sh hv0).rows st,hv0.rows] at hk2
  refine⟨_,t,ty2,_,rfl,aa,hty2,hk2,?_⟩
  generalize (upd H t (.tup [.ty "list",.ty "tuple"]))=H1 at st wt
  cases hkd:cn d with
  | none=>exact⟨_,rfl,ifT rfl (ifT rfl ⟨_,rfl,_,rfl,oddS _ wt⟩)⟩
  | some ds=>
  obtain⟨a,xs,rfl,hL,hm⟩:=vj hv hkd
  have hL1:=hL.same st
  obtain⟨m0,rfl⟩:∃ m,n0=m+1:=⟨n0-1,by have h2:=hpr.dp; cases d <;> first | (rw [Y6] at h2; omega) | cases hkd⟩
  obtain⟨m,rfl⟩:∃ m,n=m+1:=⟨n-1,by omega⟩
  obtain⟨prs,wA⟩:=hpr.kids hkd
  obtain⟨ll,hwk⟩:=rp hwd hkd
  have ml:=RdB.len hm
  refine⟨_,rfl,ifF (by simp) ⟨_,rfl,a,_,rfl,hL1.sq,rfl,_,rfl,?_⟩⟩
  by_cases l0:xs.length=0
  ·exact ifT (by simp [l0]) (ifT rfl ⟨_,rfl,_,rfl,oddS _ wt⟩)
  refine ifF (by simp; simpa using l0) ⟨_,rfl,p,5,rfl,wt.pot,by decide,by decide,fun r H2 r0 r1 p2 s2=>⟨rfl,_,rfl,?_⟩⟩
  have w2:=wt.mk1 p2 s2
  by_cases hr0:r=0
  ·exact ifT (by simp [hr0]) ⟨_,rfl,_,rfl,oddS _ w2⟩
  refine ifF (by simp [hr0]) ?_
  have na:a≠p:=by cases hv with
   | lst r _ _=>exact hRp _ r
   | tup r _ _=>exact hRp _ r
   | d0 _ _=>cases hkd
   | d1 _ _=>cases hkd
  have hL2:LT H2 a xs:=hL.mono fun o e=>w2.same a o na e
  refine⟨_,rfl,a,xs,rfl,hL2.sq,fun D hD=>?_⟩
  have w3:=w2.new hD (.lst xs)
  have nD:D≠p:=Ne.symm (w2.ne hD)
  have fD:H D=none:=w2.free hD
  refine⟨_,rfl,_,rfl,D,_,rfl,.inl (SqL.of aa),p,_,rfl,w3.pot,by omega,by omega,fun r3 H4 r30 r31 p4 s4=>?_⟩
  have w4:=w3.mk1 p4 s4
  refine⟨_,rfl,p,8,rfl,p4,by decide,by decide,fun r5 H5 r50 r51 p5 s5=>?_⟩
  have w5:=w4.mk1 p5 s5
  have eD:H5 D=some (.lst xs):=s5 _ _ nD (s4 _ _ nD aa)
  have hm5:RdB (fun a=>R a∧a≠D) H5 xs ds:=(iG hm).mono (fun c z=>⟨z.1,fun e=>z.2 (by rw [e]; exact fD)⟩) fun c o z e=>w5.same c o (hRp c z.1) e
  have hk3:r3.toNat<xs.length:=by omega
  have ix:ixN xs.length r3=some r3.toNat:=by unfold ixN; rw [if_pos r30,if_pos (by omega)]
  have fin:∀ (xs':List V) (ds':List PyData) (H6:Hp),aw p H H6→RdB (fun a=>R a∧a≠D) H6 xs' ds'→Prs (m0+2) ds'→YG ds'≤W+50→ds'.length≤k+1→(∀ x∈ds',dH (k+1) x)→Q (.ref D) (upd H6 D (.lst xs')):=fun xs' ds' H6 w6 r6 p6 h6 l6 x6=>
   q _ _ (.list ds') (.lst (hR D fD) aa (r6.mono (fun c z=>z.1) fun c o z e=>by rw [ae z.2]; exact e)) (p6.list h6) ⟨l6,wids_mem.mpr x6⟩ (w6.put (Ne.symm nD) fD _)
  refine⟨_,rfl,rfl,_,rfl,?_⟩
  by_cases h0:r5=0
  ·refine ifT (by simp [h0]) ?_
   refine⟨_,rfl,.inl ⟨rfl,_,SqL.of eD⟩,_,rfl,D,xs,r3,r3.toNat,xs[r3.toNat],rfl,rfl,eD,by omega,by omega,(kU ix).1,by simp [hk3],?_⟩
   refine⟨_,rfl,fin _ (ds.eraseIdx r3.toNat) H5 w5 (RdB.erase hm5) (fun x hx=>?_) (YE lA (by omega)) (YE (List.length_eraseIdx_le ..) (by omega)) fun x hx=>dR (by omega) (hwk x (List.mem_of_mem_eraseIdx hx))⟩
   obtain⟨a1,a2,a3⟩:=prs x (List.mem_of_mem_eraseIdx hx)
   exact⟨a1,a2,by omega⟩
  refine ifF (by simp [h0]) ⟨_,rfl,rfl,_,rfl,?_⟩
  by_cases h1:r5=1
  ·refine ifT (by simp [h1]) ?_
   refine⟨_,rfl,.inl ⟨rfl,_,SqL.of eD⟩,_,rfl,_,rfl,p,b,ks,ts,fs,rfl,p5,RdV.went hb w5.same,ok,fun u H6 ⟨d',r',p'⟩ w6=>?_⟩
   have eD6:H6 D=some (.lst xs):=w6.same _ _ nD eD
   refine⟨D,xs,u,rfl,rfl,eD6,Xz (show xs.length≤100 by omega) (by decide),?_⟩
   refine⟨_,rfl,fin _ (ds++[d']) H6 (w5.trans w6) (RdB.snoc (hm5.mono (fun _ z=>z) fun c o z e=>w6.same c o (hRp c z.1) e) (r'.mono (fun c z=>⟨hR c (w5.free z),fun e=>by rw [e,eD] at z; cases z⟩) fun _ _ _ e=>e)) (fun x hx=>?_) (by rw [oV]; have:=p'.wt; omega) (by rw [YY,XH]; omega) fun x hx=>?_⟩
   ·rcases Y3.mp hx with hx | hx
    ·obtain⟨a1,a2,a3⟩:=prs x hx
     exact⟨a1,a2,by omega⟩
    ·rw [YK.mp hx]
     exact⟨p'.sh,p'.lv,by have:=p'.dp; omega⟩
   ·rcases Y3.mp hx with hx | hx
    ·exact dR (by omega) (hwk x hx)
    ·rw [YK.mp hx]
     exact m5 (YE p'.wt (by omega))
  refine ifF (by simp [h1]) ?_
  obtain⟨di,hdi,rdi⟩:=RdB.getD hm5 (i:=r3.toNat) (x:=xs[r3.toNat]) (by simp [hk3])
  have hmem:=YU hdi
  obtain⟨a1,a2,a3⟩:=prs di hmem
  refine⟨_,rfl,_,rfl,_,rfl,_,rfl,D,xs,r3,xs[r3.toNat],rfl,rfl,SqL.of eD,aH r30 (by simp [hk3]),?_⟩
  unfold fS
  refine qk (E:=E0) ⟨p,b,xs[r3.toNat],ks,ts,fs,fun c=>R c∧c≠D,di,m0,di.weight,k,by omega,rfl,p5,RdV.went hb w5.same,ok,fun c z=>⟨hR c (w5.free z),fun e=>by rw [e,eD] at z; cases z⟩,fun c z=>hRp c z.1,rdi,⟨a1,a3,a2,YD _⟩,hwk di hmem,k40,k100,fun u H6 d' r' p' x' w6=>?_⟩
  have eD6:H6 D=some (.lst xs):=w6.same _ _ nD eD
  refine⟨_,rfl,_,rfl,D,xs,r3,r3.toNat,rfl,rfl,eD6,ix,?_⟩
  have hws:=rq (e:=d') hdi
  refine⟨_,rfl,fin _ (ds.set r3.toNat d') H6 (w5.trans w6) (RdB.set r' (hm5.mono (fun _ z=>z) fun c o z e=>w6.same c o (hRp c z.1) e)) (fun x hx=>?_) (by have:=p'.wt; omega) (by rw [List.length_set]; omega) fun x hx=>?_⟩
  ·rcases List.mem_or_eq_of_mem_set hx with hx | rfl
   ·obtain⟨b1,b2,b3⟩:=prs x hx
    exact⟨b1,b2,by omega⟩
   ·exact⟨p'.sh,p'.lv,p'.dp⟩
  ·rcases List.mem_or_eq_of_mem_set hx with hx | rfl
   ·exact dR (by omega) (hwk x hx)
   ·exact x'
theorem vL(F:ah K mg "_law_spoilt" cx lA6):Def P w K mg base "_law_spoilt" 2 lA6 (nE 0):=
 F.mk' (k:=1) zdr (fun vs H Q E h=>False.elim h) fun f cdv A outer s H vs Q E hr h=>False.elim h
theorem tw(F:ah K mg "_law_spoilt" cx lA6)(Z:Bl mg)(D_law_draw:Def P w K mg base "_law_draw" 1 lA5 spDraw)(D_law_odd:Def P w K mg base "_law_odd" 2 lC0 spOdd):∀ n,Def P w K mg base "_law_spoilt" (n+3) lA6 (spSpo n)
 | 0=>jO F Z D_law_draw D_law_odd 0 (vL F)
 | n+1=>jO F Z D_law_draw D_law_odd (n+1) (tw F Z D_law_draw D_law_odd n)
end
theorem zds:LD "FewError":=by decide +kernel
theorem zdt:LD "NoNaming":=by decide +kernel
theorem zdu:LD "NoPart":=by decide +kernel
theorem zdv:LD "NoRow":=by decide +kernel
theorem zdw:LD "NoSaying":=by decide +kernel
theorem zdx:LD "NoSigns":=by decide +kernel
theorem zdy:LD "NoSize":=by decide +kernel
theorem zdz:LD "NoText":=by decide +kernel
theorem zd0:LD "NoWorld":=by decide +kernel
theorem zd1:LD "TooMany":=by decide +kernel
theorem zd2:LD "ValueError":=by decide +kernel
theorem zd3:LM "ValueError":=by decide +kernel
theorem zd4:LD "_law_e":=by decide +kernel
theorem zd5:LS "_law_e":=by decide +kernel
theorem zd6:LD "_law_just":=by decide +kernel
theorem zd7:LD "_law_signs":=by decide +kernel
theorem zd8:LS "_law_signs":=by decide +kernel
theorem zd9:LD "_law_thing":=by decide +kernel
theorem zea:LS "_law_thing":=by decide +kernel
theorem zeb:LD "_law_told_here":=by decide +kernel
theorem zec:LS "_law_told_here":=by decide +kernel
theorem zed:LD "isinstance":=by decide +kernel
theorem zee:LM "isinstance":=by decide +kernel
theorem zef:LD "looked_over":=by decide +kernel
theorem zeg:LD "str":=by decide +kernel
theorem zeh:LM "str":=by decide +kernel
theorem zei:LD "write_saying":=by decide +kernel
theorem jz:bootBuiltins "ValueError"=some (.type "ValueError"):=by decide +kernel
structure Xs(K:WB)(C fe:Addr)(ds:List Addr):Prop where
 look:cN K C
 ve:PySem.W.kitOne K (.ref C) (.type "ValueError")=some true
 few:PySem.W.kitOne K (.ref C) (.ref fe)=some true
 oth:PySem.W.kitAny K (.ref C) (ds.map Value.ref)=some false
 up:PySem.W.mroIn K C (.ref C)=some true
def EcT(N:Addr)(H:Hp)(bad:Prop):XK:=fun cls _ H1=>cls=.ref N∧al H H1∧bad
def jw(b:Bool)(d:PyData):PyData:=if b then .tuple [.str "told",tupD d] else .tuple [.str "refused",.bool true]
def zy(b:Bool):PyData:=.tuple [.str (if b then "told" else "refused"),.bool true]
section
abbrev aI:Stmt:=top 68
theorem zej:ai lE2 lE2 (ag aI):=⟨rfl,rfl,rfl,by decide +kernel,rfl,by decide +kernel,by decide +kernel⟩
theorem zek:LN .globalImplicit aI "FewError":=by decide +kernel
theorem zel:LN .globalImplicit aI "NoNaming":=by decide +kernel
theorem zem:LN .globalImplicit aI "NoPart":=by decide +kernel
theorem zen:LN .globalImplicit aI "NoRow":=by decide +kernel
theorem zeo:LN .globalImplicit aI "NoSigns":=by decide +kernel
theorem zep:LN .globalImplicit aI "NoSize":=by decide +kernel
theorem zeq:LN .globalImplicit aI "NoText":=by decide +kernel
theorem zer:LN .globalImplicit aI "NoWorld":=by decide +kernel
theorem zes:LN .globalImplicit aI "TooMany":=by decide +kernel
theorem zet:LN .globalImplicit aI "ValueError":=by decide +kernel
theorem zeu:LN .local aI "_law_e":=by decide +kernel
theorem zev:LN .globalImplicit aI "isinstance":=by decide +kernel
inductive spJust(C:Addr)(vs:List V)(H:Hp)(Q:VK)(e3_:XK):Prop | mk (a dx) (_:vs=[.ref a]) (_:H a=some (lu C a dx)) (_:∀ H',al H H'→Q (.bl true) H')
theorem vP{C fe x1 x2 x3 x4 x5 x6 x7 x8:Addr}(F:ah K mg "_law_just" aI lE2)(Z:Bl mg)(n_ValueError:mg "ValueError"=none)(T:Xs K C fe [x1,x2,x3,x4,x5,x6,x7,x8])
  (g_FewError:mg "FewError"=some (.ref fe)) (g_NoNaming:mg "NoNaming"=some (.ref x1)) (g_NoPart:mg "NoPart"=some (.ref x2)) (g_NoRow:mg "NoRow"=some (.ref x3)) (g_NoSigns:mg "NoSigns"=some (.ref x4)) (g_NoSize:mg "NoSize"=some (.ref x5)) (g_NoText:mg "NoText"=some (.ref x6)) (g_NoWorld:mg "NoWorld"=some (.ref x7)) (g_TooMany:mg "TooMany"=some (.ref x8)) :
  rh P w K mg base "_law_just" 1 lE2 (spJust C):=by
 have SC:=zej
 have r_FewError:ar (.ref fe) (.ref fe):=rfl
 have r_NoNaming:ar (.ref x1) (.ref x1):=rfl
 have r_NoPart:ar (.ref x2) (.ref x2):=rfl
 have r_NoRow:ar (.ref x3) (.ref x3):=rfl
 have r_NoSigns:ar (.ref x4) (.ref x4):=rfl
 have r_NoSize:ar (.ref x5) (.ref x5):=rfl
 have r_NoText:ar (.ref x6) (.ref x6):=rfl
 have r_NoWorld:ar (.ref x7) (.ref x7):=rfl
 have r_TooMany:ar (.ref x8) (.ref x8):=rfl
 refine F.mkU (k:=0) zej (fun vs H Q E h=>?_) (fun f cdv A outer s H vs Q E hr h=>?_)
 ·obtain⟨a,dx,rfl,_⟩:=h
  rfl
 ·obtain⟨a,dx,rfl,ha,q⟩:=h
  refine'⟨_,?dv,?_⟩
  case dv=>refine' au ?Aa ?Ba;(case Aa=>refine' iq ?Ca ?Da dC;(case Ca=>refine' PW.pt ?Ea;case Ea=>refine' pi ?Fa ?Ga;(case Fa=>refine' nO ?Ha;case Ha=>refine' kI ?Ia ?Ja;(case Ia=>refine' aJ (hn:=zee) (hdb:=zed) j4 zev Z.n_isinstance bM ?Ka rfl rfl;case Ka=>refine' ad (pq 0 (az zeu) zd4 zd5) ?La ?Ma;(case La=>refine' ad ?Na am ?Oa;(case Na=>refine' eh (v:=V.ty "ValueError") (hn:=zd3) (hd:=zd2) zet n_ValueError jz rfl);case Oa=>rfl);case Ma=>rfl);case Ja=>intro _; rfl);case Ga=>refine' kH ?Pa;case Pa=>refine' nO ?Qa;case Qa=>refine' kI ?Ra ?Sa;(case Ra=>refine' aJ (hn:=zee) (hdb:=zed) j4 zev Z.n_isinstance bM ?Ta rfl rfl;case Ta=>refine' ad (pq 0 (az zeu) zd4 zd5) ?Ua ?Va;(case Ua=>refine' ad ?Wa am ?Xa;(case Wa=>refine' cJ (hd:=zds) zek g_FewError r_FewError);case Xa=>rfl);case Va=>rfl);case Sa=>intro _; rfl);case Da=>refine' aL ?Ya;case Ya=>refine' cB ?Za;case Za=>exact eC);case Ba=>refine' aL ?Ab;case Ab=>refine' cB ?Bb;case Bb=>refine' sH ?Cb;case Cb=>refine' aJ (hn:=zee) (hdb:=zed) oF zev Z.n_isinstance bM ?Db rfl rfl;case Db=>refine' ad (pq 0 (az zeu) zd4 zd5) ?Eb ?Fb;(case Eb=>refine' ad ?Gb am ?Hb;(case Gb=>refine' bq ?Ib;case Ib=>refine' ad ?Jb ?Kb ?Lb;(case Jb=>refine' cJ (hd:=zdt) zel g_NoNaming r_NoNaming);(case Kb=>refine' ad ?Mb ?Nb ?Ob;(case Mb=>refine' cJ (hd:=zdu) zem g_NoPart r_NoPart);(case Nb=>refine' ad ?Pb ?Qb ?Rb;(case Pb=>refine' cJ (hd:=zdv) zen g_NoRow r_NoRow);(case Qb=>refine' ad ?Sb ?Tb ?Ub;(case Sb=>refine' cJ (hd:=zdx) zeo g_NoSigns r_NoSigns);(case Tb=>refine' ad ?Vb ?Wb ?Xb;(case Vb=>refine' cJ (hd:=zdy) zep g_NoSize r_NoSize);(case Wb=>refine' ad ?Yb ?Zb ?Ac;(case Yb=>refine' cJ (hd:=zdz) zeq g_NoText r_NoText);(case Zb=>refine' ad ?Bc ?Cc ?Dc;(case Bc=>refine' cJ (hd:=zd0) zer g_NoWorld r_NoWorld);(case Cc=>refine' ad ?Ec am ?Fc;(case Ec=>refine' cJ (hd:=zd1) zes g_TooMany r_TooMany);case Fc=>rfl);case Dc=>rfl);case Ac=>rfl);case Xb=>rfl);case Ub=>rfl);case Rb=>rfl);case Ob=>rfl);case Lb=>rfl);case Hb=>rfl);case Fb=>rfl
  refine⟨_,rfl,a,C,dx,_,_,true,rfl,rfl,ha,T.look,T.ve,true,rfl,dz ?_⟩
  refine⟨_,rfl,a,C,dx,_,_,true,rfl,rfl,ha,T.look,T.few,true,rfl,dz ?_⟩
  refine⟨_,rfl,by show 8≤sizeLine; decide,fun t ht=>?_⟩
  have st:=ac ht (.tup [.ref x1,.ref x2,.ref x3,.ref x4,.ref x5,.ref x6,.ref x7,.ref x8])
  exact⟨a,C,t,dx,[x1,x2,x3,x4,x5,x6,x7,x8],false,rfl,aa,st _ _ ha,T.look,T.oth,_,rfl,q _ st⟩
abbrev bp:Stmt:=top 69
theorem zew:ai lD8 lB4 (ag bp):=⟨rfl,rfl,rfl,by decide +kernel,rfl,by decide +kernel,by decide +kernel⟩
theorem zex:LN .globalImplicit bp "NoSaying":=by decide +kernel
theorem zey:LN .local bp "_law_e":=by decide +kernel
theorem zez:LN .globalImplicit bp "_law_just":=by decide +kernel
theorem ze0:LN .local bp "_law_signs":=by decide +kernel
theorem ze1:LN .local bp "_law_thing":=by decide +kernel
theorem ze2:LN .local bp "_law_told_here":=by decide +kernel
theorem ze3:LN .globalImplicit bp "looked_over":=by decide +kernel
inductive spTold(C:Addr)(vs:List V)(H:Hp)(Q:VK)(e3_:XK):Prop | mk (g:Addr) (v:V) (ks:List Str) (ts:List aq) (fs:List ao) (d:PyData) (_:vs=[.ref g,v]) (_:aQ C H g ks ts fs) (_:aU ks ts fs) (_:Rd0 H v d) (_:d.depth≤12) (_:d.weight≤100000) (_:∀ p H',al H H'→Rd0 H' (.ref p) (jw (bg ks ts fs d S0) d)→Q (.ref p) H')
theorem vI{C N fe x1 x2 x3 x4 x5 x6 x7 x8:Addr}(F:ah K mg "_law_told" bp lB4)(Z:Bl mg)(O_NoSaying:mg "NoSaying"=some (.ref N)∧j8 K N∧PySem.W.mroIn K N (.type "BaseException")=some true)(T:Xs K N fe [x1,x2,x3,x4,x5,x6,x7,x8])
  (D_law_just:rh P w K mg base "_law_just" 1 lE2 (spJust N)) (D_looked_over:bc P w K mg base "looked_over" 30 lC9 (spLookE C N)):Def P w K mg base "_law_told" 31 lB4 (spTold C):=by
 have SC:=zew
 refine F.mk' (k:=30) zew (fun vs H Q E h=>?_) (fun f cdv A outer s H vs Q E hr h=>?_)
 ·obtain⟨g,v,ks,ts,fs,d,rfl,_⟩:=h
  rfl
 ·obtain⟨g,v,ks,ts,fs,d,rfl,hS,ok,hv,hd,hw,q⟩:=h
  refine'⟨_,?dv,?_⟩
  case dv=>refine' au ?Aa ?Ba;(case Aa=>refine' aZ (i:=2) (x:=Str.ofString "_law_told_here") ?Ca ?Da ?Ea ?Fa ?Ga ?Ha;(case Ca=>exact SC.nd);(case Da=>exact rfl);(case Ea=>exact(Or.inl ze2));(case Fa=>exact hJ);(case Ga=>rfl);case Ha=>exact .inl rfl);case Ba=>refine' au ?Ia ?Ja;(case Ia=>refine' i3 (Ec:=(EcT N H (bg ks ts fs d S0=false))) (i:=3) (n:=Str.ofString "_law_e") (hdb:=zdw) O_NoSaying.1 O_NoSaying.2.1 O_NoSaying.2.2 zex SC.nd rfl zey ?Ka ?La;(case Ka=>intro _;refine' aL ?Ma;case Ma=>refine' aZ (i:=2) (x:=Str.ofString "_law_told_here") ?Na ?Oa ?Pa ?Qa ?Ra ?Sa;(case Na=>exact SC.nd);(case Oa=>exact rfl);(case Pa=>exact(Or.inl ze2));(case Qa=>refine' bq ?Ta;case Ta=>refine' ad ?Ua ?Va ?Wa;(case Ua=>exact aA);(case Va=>refine' ad ?Xa am ?Ya;(case Xa=>refine' kN (hdb:=zef) (gf bL) D_looked_over (hr.mono (by decide)) ze3 ?Za rfl rfl;case Za=>refine' ad (pq 0 (az ze0) zd7 zd8) ?Ab ?Bb;(case Ab=>refine' ad (pq 1 (az ze1) zd9 zea) am ?Cb;case Cb=>rfl);case Bb=>rfl);case Ya=>rfl);case Wa=>rfl);(case Ra=>rfl);case Sa=>exact .inl rfl);case La=>intro _ _;refine' aL ?Db;case Db=>refine' aZ (i:=2) (x:=Str.ofString "_law_told_here") ?Eb ?Fb ?Gb ?Hb ?Ib ?Jb;(case Eb=>exact SC.nd);(case Fb=>exact rfl);(case Gb=>exact(Or.inl ze2));(case Hb=>refine' bq ?Kb;case Kb=>refine' ad ?Lb ?Mb ?Nb;(case Lb=>exact aA);(case Mb=>refine' ad ?Ob am ?Pb;(case Ob=>refine' kM (hdb:=zd6) D_law_just (bV.mark (bV.mono (aO.u hr) (by decide)) _) zez ?Qb rfl rfl;case Qb=>refine' ad (pq 3 (az zey) zd4 zd5) am ?Rb;case Rb=>rfl);case Pb=>rfl);case Nb=>rfl);(case Ib=>rfl);case Jb=>exact .inl rfl);case Ja=>refine' aL ?Sb;case Sb=>refine' cB (pq 2 (az ze2) zeb zec)
  refine⟨?_,?_⟩
  ·refine⟨_,rfl,_,rfl,g,v,ks,ts,fs,d,rfl,hS,ok,hv,hd,hw,fun hy u H1 tu s1=>⟨by show 2≤sizeLine; decide,fun t ht=>?_⟩,fun hy H1 s1=>⟨rfl,s1,hy⟩⟩
   have st:=ac ht (.tup [.str "told",u])
   refine⟨_,rfl,q _ _ (s1.trans st) ?_⟩
   rw [hy]
   exact .tup trivial aa (.cons (.str _) (.cons (Rd0.same tu st) .nil))
  ·rintro cls dx H1 σ1 ⟨rfl,s1,hy⟩ hl
   obtain⟨o1,o2,o3,o4,rfl⟩:=Few.le4 hl
   refine⟨N,rfl,T.up,fun a ha=>?_⟩
   have sa:=ac ha (lu N a dx)
   refine⟨_,rfl,a,dx,rfl,aa,fun H2 s2=>⟨by show 2≤sizeLine; decide,fun t ht=>?_⟩⟩
   have st:=ac ht (.tup [.str "refused",.bl true])
   refine⟨_,rfl,q _ _ (((s1.trans sa).trans s2).trans st) ?_⟩
   rw [hy]
   exact .tup trivial aa (.cons (.str _) (.cons (.bl _) .nil))
abbrev aD:Stmt:=top 70
theorem ze4:ai lD8 lB4 (ag aD):=⟨rfl,rfl,rfl,by decide +kernel,rfl,by decide +kernel,by decide +kernel⟩
theorem ze5:LN .globalImplicit aD "NoSaying":=by decide +kernel
theorem ze6:LN .local aD "_law_e":=by decide +kernel
theorem ze7:LN .globalImplicit aD "_law_just":=by decide +kernel
theorem ze8:LN .local aD "_law_signs":=by decide +kernel
theorem ze9:LN .local aD "_law_thing":=by decide +kernel
theorem zfa:LN .local aD "_law_told_here":=by decide +kernel
theorem zfb:LN .globalImplicit aD "isinstance":=by decide +kernel
theorem zfc:LN .globalImplicit aD "str":=by decide +kernel
theorem zfd:LN .globalImplicit aD "write_saying":=by decide +kernel
inductive spLWr(C:Addr)(vs:List V)(H:Hp)(Q:VK)(e3_:XK):Prop | mk (g:Addr) (v:V) (ks:List Str) (ts:List aq) (fs:List ao) (d:PyData) (_:vs=[.ref g,v]) (_:aQ C H g ks ts fs) (_:aU ks ts fs) (_:Rd0 H v d) (_:d.depth≤12) (_:d.weight≤100000) (_:∀ p H',al H H'→Rd0 H' (.ref p) (zy (bg ks ts fs d S0))→Q (.ref p) H')
theorem yf{C N fe x1 x2 x3 x4 x5 x6 x7 x8:Addr}(F:ah K mg "_law_written" aD lB4)(Z:Bl mg)(O_NoSaying:mg "NoSaying"=some (.ref N)∧j8 K N∧PySem.W.mroIn K N (.type "BaseException")=some true)(T:Xs K N fe [x1,x2,x3,x4,x5,x6,x7,x8])
  (D_law_just:rh P w K mg base "_law_just" 1 lE2 (spJust N)) (D_write_saying:bc P w K mg base "write_saying" 31 lD7 (spWriteE C N)):Def P w K mg base "_law_written" 32 lB4 (spLWr C):=by
 have SC:=ze4
 refine F.mk' (k:=31) ze4 (fun vs H Q E h=>?_) (fun f cdv A outer s H vs Q E hr h=>?_)
 ·obtain⟨g,v,ks,ts,fs,d,rfl,_⟩:=h
  rfl
 ·obtain⟨g,v,ks,ts,fs,d,rfl,hS,ok,hv,hd,hw,q⟩:=h
  refine'⟨_,?dv,?_⟩
  case dv=>refine' au ?Aa ?Ba;(case Aa=>refine' aZ (i:=2) (x:=Str.ofString "_law_told_here") ?Ca ?Da ?Ea ?Fa ?Ga ?Ha;(case Ca=>exact SC.nd);(case Da=>exact rfl);(case Ea=>exact(Or.inl zfa));(case Fa=>exact hJ);(case Ga=>rfl);case Ha=>exact .inl rfl);case Ba=>refine' au ?Ia ?Ja;(case Ia=>refine' i3 (Ec:=(EcT N H (bg ks ts fs d S0=false))) (i:=3) (n:=Str.ofString "_law_e") (hdb:=zdw) O_NoSaying.1 O_NoSaying.2.1 O_NoSaying.2.2 ze5 SC.nd rfl ze6 ?Ka ?La;(case Ka=>intro _;refine' aL ?Ma;case Ma=>refine' aZ (i:=2) (x:=Str.ofString "_law_told_here") ?Na ?Oa ?Pa ?Qa ?Ra ?Sa;(case Na=>exact SC.nd);(case Oa=>exact rfl);(case Pa=>exact(Or.inl zfa));(case Qa=>refine' bq ?Ta;case Ta=>refine' ad ?Ua ?Va ?Wa;(case Ua=>exact aA);(case Va=>refine' ad ?Xa am ?Ya;(case Xa=>refine' aJ (hn:=zee) (hdb:=zed) (oG (T:="str") K rfl) zfb Z.n_isinstance bM ?Za rfl rfl;case Za=>refine' ad ?Ab ?Bb ?Cb;(case Ab=>refine' kN (hdb:=zei) (gf bL) D_write_saying (hr.mono (by decide)) zfd ?Db rfl rfl;case Db=>refine' ad (pq 0 (az ze8) zd7 zd8) ?Eb ?Fb;(case Eb=>refine' ad (pq 1 (az ze9) zd9 zea) am ?Gb;case Gb=>rfl);case Fb=>rfl);(case Bb=>refine' ad ?Hb am ?Ib;(case Hb=>refine' eh (v:=V.ty "str") (hn:=zeh) (hd:=zeg) zfc Z.n_str oK rfl);case Ib=>rfl);case Cb=>rfl);case Ya=>rfl);case Wa=>rfl);(case Ra=>rfl);case Sa=>exact .inl rfl);case La=>intro _ _;refine' aL ?Jb;case Jb=>refine' aZ (i:=2) (x:=Str.ofString "_law_told_here") ?Kb ?Lb ?Mb ?Nb ?Ob ?Pb;(case Kb=>exact SC.nd);(case Lb=>exact rfl);(case Mb=>exact(Or.inl zfa));(case Nb=>refine' bq ?Qb;case Qb=>refine' ad ?Rb ?Sb ?Tb;(case Rb=>exact aA);(case Sb=>refine' ad ?Ub am ?Vb;(case Ub=>refine' kM (hdb:=zd6) D_law_just (bV.mark (bV.mono (aO.u hr) (by decide)) _) ze7 ?Wb rfl rfl;case Wb=>refine' ad (pq 3 (az ze6) zd4 zd5) am ?Xb;case Xb=>rfl);case Vb=>rfl);case Tb=>rfl);(case Ob=>rfl);case Pb=>exact .inl rfl);case Ja=>refine' aL ?Yb;case Yb=>refine' cB (pq 2 (az zfa) zeb zec)
  refine⟨?_,?_⟩
  ·refine⟨_,rfl,_,rfl,g,v,ks,ts,fs,d,rfl,hS,ok,hv,hd,hw,fun hy z H1 s1=>⟨_,_,_,rfl,.str _,gw K,by show 2≤sizeLine; decide,fun t ht=>?_⟩,fun hy H1 s1=>⟨rfl,s1,hy⟩⟩
   have st:=ac ht (.tup [.str "told",.bl true])
   refine⟨_,rfl,q _ _ (s1.trans st) ?_⟩
   rw [hy]
   exact .tup trivial aa (.cons (.str _) (.cons (.bl _) .nil))
  ·rintro cls dx H1 σ1 ⟨rfl,s1,hy⟩ hl
   obtain⟨o1,o2,o3,o4,rfl⟩:=Few.le4 hl
   refine⟨N,rfl,T.up,fun a ha=>?_⟩
   have sa:=ac ha (lu N a dx)
   refine⟨_,rfl,a,dx,rfl,aa,fun H2 s2=>⟨by show 2≤sizeLine; decide,fun t ht=>?_⟩⟩
   have st:=ac ht (.tup [.str "refused",.bl true])
   refine⟨_,rfl,q _ _ (((s1.trans sa).trans s2).trans st) ?_⟩
   rw [hy]
   exact .tup trivial aa (.cons (.str _) (.cons (.bl _) .nil))
end
theorem zfe:LD "Text":=by decide +kernel
theorem zff:LD "_law_is_saying":=by decide +kernel
theorem zfg:LD "_law_rows":=by decide +kernel
theorem zfh:LS "_law_rows":=by decide +kernel
theorem zfi:LD "_law_tuples":=by decide +kernel
theorem nZ{g kt:Addr}:(fx2 g kt).lookup ("sayings":Str)=none:=yA (by decide +kernel) (by decide +kernel)
abbrev sk:PyData:=.tuple [.str "refused",.bool true]
def oz(ks:List Str)(ts:List aq)(fs:List ao)(d:PyData):PyData:=match cn d with
 | some ds=>if bO ks ts fs ds S0 then .tuple [.str "told",.list (be ds)] else sk
 | none=>sk
section
abbrev aP:Stmt:=top 71
theorem zfj:ai ["_law_signs","_law_rows","_law_told_here","_law_e"] lD0 (ag aP):=⟨rfl,rfl,rfl,by decide +kernel,rfl,by decide +kernel,by decide +kernel⟩
theorem zfk:LN .globalImplicit aP "NoSaying":=by decide +kernel
theorem zfl:LN .globalImplicit aP "Text":=by decide +kernel
theorem zfm:LN .local aP "_law_e":=by decide +kernel
theorem zfn:LN .globalImplicit aP "_law_just":=by decide +kernel
theorem zfo:LN .local aP "_law_rows":=by decide +kernel
theorem zfp:LN .local aP "_law_signs":=by decide +kernel
theorem zfq:LN .local aP "_law_told_here":=by decide +kernel
inductive spOfT(C:Addr)(vs:List V)(H:Hp)(Q:VK)(e3_:XK):Prop | mk (g:Addr) (v:V) (ks:List Str) (ts:List aq) (fs:List ao) (d:PyData) (_:vs=[.ref g,v]) (_:aQ C H g ks ts fs) (_:aU ks ts fs) (_:Rd0 H v d) (_:d.depth≤13) (_:d.weight≤100000) (_:∀ p H',al H H'→Rd0 H' (.ref p) (oz ks ts fs d)→Q (.ref p) H')
theorem yc{C CX N fe x1 x2 x3 x4 x5 x6 x7 x8 fT f1:Addr}{fdT fd1:FuncData}(F:ah K mg "_law_of_text" aP lD0)(Z:Bl mg)(O_NoSaying:mg "NoSaying"=some (.ref N)∧j8 K N∧PySem.W.mroIn K N (.type "BaseException")=some true)(T:Xs K N fe [x1,x2,x3,x4,x5,x6,x7,x8])
  (D_law_just:rh P w K mg base "_law_just" 1 lE2 (spJust N)) (TX:ClX K CX)
  (M_Text:Mk K CX fT) (G_Text:cC P w K mg base (CX1 P w) 32 fT fdT lC6 (spTextE C CX N)) (m_Text:mg "Text"=some (.ref CX)) (b_Text:ce K fdT lC6 [])
  (m_sayings:rc K CX "sayings" f1) (G_sayings:cC P w K mg base CX0 1 f1 fd1 lC3 (spTSays CX)) (b_sayings:ce K fd1 lC3 []):Def P w K mg base "_law_of_text" 34 lD0 (spOfT C):=by
 have SC:=zfj
 refine F.mk' (k:=33) zfj (fun vs H Q E h=>?_) (fun f cdv A outer s H vs Q E hr h=>?_)
 ·obtain⟨g,v,ks,ts,fs,d,rfl,_⟩:=h
  rfl
 ·obtain⟨g,v,ks,ts,fs,d,rfl,hS,ok,hv,hd,hw,q⟩:=h
  refine'⟨_,?dv,?_⟩
  case dv=>refine' au ?Aa ?Ba;(case Aa=>refine' aZ (i:=2) (x:=Str.ofString "_law_told_here") ?Ca ?Da ?Ea ?Fa ?Ga ?Ha;(case Ca=>exact SC.nd);(case Da=>exact rfl);(case Ea=>exact(Or.inl zfq));(case Fa=>exact hJ);(case Ga=>rfl);case Ha=>exact .inl rfl);case Ba=>refine' au ?Ia ?Ja;(case Ia=>refine' i3 (Ec:=(EcT N H (∀ ds,cn d=some ds→bO ks ts fs ds S0=false))) (i:=3) (n:=Str.ofString "_law_e") (hdb:=zdw) O_NoSaying.1 O_NoSaying.2.1 O_NoSaying.2.2 zfk SC.nd rfl zfm ?Ka ?La;(case Ka=>intro _;refine' aL ?Ma;case Ma=>refine' aZ (i:=2) (x:=Str.ofString "_law_told_here") ?Na ?Oa ?Pa ?Qa ?Ra ?Sa;(case Na=>exact SC.nd);(case Oa=>exact rfl);(case Pa=>exact(Or.inl zfq));(case Qa=>refine' bq ?Ta;case Ta=>refine' ad ?Ua ?Va ?Wa;(case Ua=>exact aA);(case Va=>refine' ad ?Xa am ?Ya;(case Xa=>refine' lQ ?Za TX.cl m_sayings G_sayings (hr.mono (by decide)) b_sayings .nil lR rfl;case Za=>refine' kL (hdb:=zfe) M_Text G_Text (hr.mono (by decide)) zfl m_Text b_Text .nil (pA (gf bL)) ?Ab rfl rfl;case Ab=>refine' ad (pq 0 (az zfp) zd7 zd8) ?Bb ?Cb;(case Bb=>refine' ad (pq 1 (az zfo) zfg zfh) am ?Db;case Db=>rfl);case Cb=>rfl);case Ya=>rfl);case Wa=>rfl);(case Ra=>rfl);case Sa=>exact .inl rfl);case La=>intro _ _;refine' aL ?Eb;case Eb=>refine' aZ (i:=2) (x:=Str.ofString "_law_told_here") ?Fb ?Gb ?Hb ?Ib ?Jb ?Kb;(case Fb=>exact SC.nd);(case Gb=>exact rfl);(case Hb=>exact(Or.inl zfq));(case Ib=>refine' bq ?Lb;case Lb=>refine' ad ?Mb ?Nb ?Ob;(case Mb=>exact aA);(case Nb=>refine' ad ?Pb am ?Qb;(case Pb=>refine' kM (hdb:=zd6) D_law_just (bV.mark (bV.mono (aO.u hr) (by decide)) _) zfn ?Rb rfl rfl;case Rb=>refine' ad (pq 3 (az zfm) zd4 zd5) am ?Sb;case Sb=>rfl);case Qb=>rfl);case Ob=>rfl);(case Jb=>rfl);case Kb=>exact .inl rfl);case Ja=>refine' aL ?Tb;case Tb=>refine' cB (pq 2 (az zfq) zeb zec)
  refine⟨?_,?_⟩
  ·refine⟨_,rfl,_,rfl,fun x dx hx hdx nd=>?_⟩
   have s1:=g6 (CB:=CX) hx hdx nd
   obtain⟨dg,_,_,_,_,_,g2,_⟩:=id hS
   have gx:g≠x:=af g2 hx
   refine⟨x,dx,g,v,ks,ts,fs,d,rfl,aa,hS.same s1,ok,Rd0.same hv s1,hd,hw,gx,fun ds hk hy H2 hT t2=>⟨rfl,?_⟩,fun hn H2 t2=>⟨rfl,df hx s1 t2,hn⟩⟩
   have s2:=df hx s1 t2
   obtain⟨dx2,g3,kt,ys,h1,h2,h3⟩:=id hT
   refine⟨x,dx2,_,rfl,h1,nZ,x,be ds,rfl,hT,fun a ys' ha hr'=>⟨by show 2≤sizeLine; decide,fun t ht=>?_⟩⟩
   have s3:=ac ha (.lst ys')
   have s4:=ac ht (.tup [.str "told",.ref a])
   refine⟨_,rfl,q _ _ ((s2.trans s3).trans s4) ?_⟩
   unfold oz
   rw [hk]
   show Rd0 _ _ (if bO ks ts fs ds S0=true then _ else _)
   rw [if_pos hy]
   exact .tup trivial aa (.cons (.str _) (.cons (.lst trivial (s4 _ _ aa) (aB.same hr' (s3.trans s4))) .nil))
  ·rintro cls dx H1 σ1 ⟨rfl,s1,hy⟩ hl
   obtain⟨o1,o2,o3,o4,rfl⟩:=Few.le4 hl
   refine⟨N,rfl,T.up,fun a ha=>?_⟩
   have sa:=ac ha (lu N a dx)
   refine⟨_,rfl,a,dx,rfl,aa,fun H2 s2=>⟨by show 2≤sizeLine; decide,fun t ht=>?_⟩⟩
   have st:=ac ht (.tup [.str "refused",.bl true])
   refine⟨_,rfl,q _ _ (((s1.trans sa).trans s2).trans st) ?_⟩
   have e:oz ks ts fs d=sk:=by
    unfold oz
    cases hk:cn d with
    | none=>rfl
    | some ds=>
     show (if bO ks ts fs ds S0=true then _ else _)=_
     rw [hy ds hk]; rfl
   rw [e]
   exact .tup trivial aa (.cons (.str _) (.cons (.bl _) .nil))
abbrev cF:Stmt:=top 72
theorem zfr:ai lC5 lC5 (ag cF):=⟨rfl,rfl,rfl,by decide +kernel,rfl,by decide +kernel,by decide +kernel⟩
theorem zfs:LN .local cF "_law_book_here":=by decide +kernel
theorem zft:LN .globalImplicit cF "_law_is_saying":=by decide +kernel
theorem zfu:LN .local cF "_law_thing":=by decide +kernel
theorem zfv:LN .globalImplicit cF "_law_tuples":=by decide +kernel
inductive spDue(vs:List V)(H:Hp)(Q:VK)(e3_:XK):Prop | mk (b:Addr) (v:V) (ks:List Str) (ts:List aq) (fs:List ao) (d:PyData) (_:vs=[.ref b,v]) (_:BkR H b ks ts fs) (_:aU ks ts fs) (_:Rd0 H v d) (_:d.depth≤12) (_:d.weight≤100000) (_:∀ p H',al H H'→Rd0 H' (.ref p) (jw (bg ks ts fs d S0) d)→Q (.ref p) H')
theorem yi(F:ah K mg "_law_due" cF lC5)(Z:Bl mg)(D_law_is_saying:Def P w K mg base "_law_is_saying" (2*12+4) lA0 (spIs 12))(D_law_tuples:Def P w K mg base "_law_tuples" (12+2) lA8 (spTup 12)):Def P w K mg base "_law_due" 29 lC5 spDue:=by
 have SC:=zfr
 refine F.mk' (k:=28) zfr (fun vs H Q E h=>?_) (fun f cdv A outer s H vs Q E hr h=>?_)
 ·obtain⟨b,v,ks,ts,fs,d,rfl,_⟩:=h
  rfl
 ·obtain⟨b,v,ks,ts,fs,d,rfl,hb,ok,hv,hd,hw,q⟩:=h
  refine'⟨_,?dv,?_⟩
  case dv=>refine' au ?Aa ?Ba;(case Aa=>refine' iq ?Ca ?Da dC;(case Ca=>refine' kI ?Ea ?Fa;(case Ea=>refine' bx (hdb:=zff) D_law_is_saying (hr.mono (by decide)) zft ?Ga rfl rfl;case Ga=>refine' ad (pq 0 (az zfs) zcw zcx) ?Ha ?Ia;(case Ha=>refine' ad (pq 1 (az zfu) zd9 zea) ?Ja ?Ka;(case Ja=>refine' ad ?La am ?Ma;(case La=>exact gu);case Ma=>rfl);case Ka=>rfl);case Ia=>rfl);case Fa=>intro _; rfl);case Da=>refine' aL ?Na;case Na=>refine' cB ?Oa;case Oa=>refine' bq ?Pa;case Pa=>refine' ad ?Qa ?Ra ?Sa;(case Qa=>exact aA);(case Ra=>refine' ad ?Ta am ?Ua;(case Ta=>refine' bx (hdb:=zfi) D_law_tuples (hr.mono (by decide)) zfv ?Va rfl rfl;case Va=>refine' ad (pq 1 (az zfu) zd9 zea) am ?Wa;case Wa=>rfl);case Ua=>rfl);case Sa=>rfl);case Ba=>refine' aL ?Xa;case Xa=>refine' cB ?Ya;case Ya=>refine' bq ?Za;case Za=>refine' ad ?Ab ?Bb ?Cb;(case Ab=>exact aA);(case Bb=>refine' ad ?Db am ?Eb;(case Db=>exact eC);case Eb=>rfl);case Cb=>rfl
  refine⟨_,rfl,_,rfl,fun m hm=>?_⟩
  have s1:=ac hm (.dK [])
  refine⟨b,m,v,ks,ts,fs,S0,0,d,rfl,hb.same s1,ok,Rd0.same hv s1,⟨[],aa,YD _,fun _=>rfl⟩,by decide,hd,hw,fun H1 s2=>⟨_,rfl,?_⟩⟩
  have s12:=s1.trans s2
  cases hy:bg ks ts fs d S0 with
  | true=>
   refine ifT rfl ⟨_,rfl,v,d,rfl,Rd0.same hv s12,iE hy,hd,hw,fun u H2 tu s3=>⟨by show 2≤sizeLine; decide,fun t ht=>?_⟩⟩
   have st:=ac ht (.tup [.str "told",u])
   refine q _ _ ((s12.trans s3).trans st) ?_
   rw [hy]
   exact .tup trivial aa (.cons (.str _) (.cons (Rd0.same tu st) .nil))
  | false=>
   refine ifF (by simp) ⟨by show 2≤sizeLine; decide,fun t ht=>?_⟩
   have st:=ac ht (.tup [.str "refused",.bl true])
   refine q _ _ (s12.trans st) ?_
   rw [hy]
   exact .tup trivial aa (.cons (.str _) (.cons (.bl _) .nil))
end
mutual
theorem oW:∀ d:PyData,(tupD d).depth=d.depth∧(tupD d).weight=d.weight∧(tupD d).leavesShort 8=d.leavesShort 8∧(tupD d).showable=d.showable
 | .list xs=>by
  obtain⟨a,b,c,e⟩:=iM xs
  simp only [tupD,Y6,Y4,XG,XJ,a,b,c,e,and_self]
 | .tuple xs=>by
  obtain⟨a,b,c,e⟩:=iM xs
  simp only [tupD,Y6,Y4,XG,XJ,a,b,c,e,and_self]
 | .str _=>⟨rfl,rfl,rfl,rfl⟩
 | .none=>⟨rfl,rfl,rfl,rfl⟩
 | .bool _=>⟨rfl,rfl,rfl,rfl⟩
 | .int _=>⟨rfl,rfl,rfl,rfl⟩
 | .dict _=>⟨rfl,rfl,rfl,rfl⟩
theorem iM:∀ ds:List PyData,YQ (be ds)=YQ ds∧YG (be ds)=YG ds∧Y5 8 (be ds)=Y5 8 ds∧XA (be ds)=XA ds
 | []=>⟨rfl,rfl,rfl,rfl⟩
 | d::ds=>by
  obtain⟨a,b,c,e⟩:=oW d
  obtain⟨a',b',c',e'⟩:=iM ds
  simp only [be,YQ,YG,Y5,XA,a,b,c,e,a',b',c',e',and_self]
end
theorem Pr.tupD{n W:Nat}{d:PyData}(h:Pr n W d):Pr n W (tupD d):=by
 obtain⟨a,b,c,e⟩:=oW d
 exact⟨by rw [e]; exact h.sh,by rw [a]; exact h.dp,by rw [c]; exact h.lv,by rw [b]; exact h.wt⟩
theorem ww{fs:List ao}{f:ao}(nd:(fs.map (·.nm)).Nodup)(h:f∈fs):fJ fs f.nm=some (f.ps,f.kd):=by
 cases e:fJ fs f.nm with
 | none=>exact absurd rfl (jU e f h)
 | some y=>
  obtain⟨ps,k⟩:=y
  obtain⟨t,ht,en,rfl,rfl⟩:=ig e
  rw [iH nd ht h en]
theorem u8{ts:List aq}{t:aq}(nd:(ts.map (·.nm)).Nodup)(h:t∈ts):eM ts t.nm=some t.ps:=by
 cases e:eM ts t.nm with
 | none=>exact absurd rfl (jF e t h)
 | some y=>
  obtain⟨t',ht,en,rfl⟩:=gR e
  rw [iH nd ht h en]
mutual
theorem kj{fs:List ao}{S:Str→Option Str}(nd:(fs.map (·.nm)).Nodup):∀ {t:Tr} {k:Str},mW fs S t k→aV fs S (dT t)=some k
 | _,_,.var h=>by rw [dT,aV]; exact h
 | _,_,.app (f:=f) hf r=>by
  rw [dT,dTA,dT,aV,mS,ww nd hf]
  show (if bI fs S (dTA _) f.ps=true then some f.kd else none)=_
  rw [if_pos (ki nd r)]
theorem ki{fs:List ao}{S:Str→Option Str}(nd:(fs.map (·.nm)).Nodup):∀ {ts:List Tr} {ps:List Str},dG fs S ts ps→bI fs S (dTA ts) ps=true
 | _,_,.nil=>rfl
 | _,_,.cons a r=>by rw [dTA,bI,kj nd a,ki nd r]; simp
end
mutual
theorem kq{ks:List Str}{ts:List aq}{fs:List ao}(ok:aU ks ts fs):∀ {S:Str→Option Str} {t:Tr},fN ks ts fs S t→bg ks ts fs (dT t) S=true
 | S,_,.eq ha hb=>by
  have nd:=(List.nodup_append.mp ok.sn).2.1
  rw [dT,dTA,dTA,dTA,dTA,dT,bg]
  show eqD fs S [dT _,dT _]=true
  rw [eqD,kj nd ha,kj nd hb]; simp
 | S,_,.not ha=>by
  rw [dT,dTA,dTA,dTA,dT,bg]
  show (true&&bO ks ts fs [dT _] S)=true
  rw [bO,kq ok ha]; rfl
 | S,_,.conn (w:=w) hw _ r=>by
  rw [dT,dTA,dT,bg,gY (by rcases hw with e | e <;> simp [e]) (fun e=>by rcases hw with h | h <;> (rw [h] at e; exact absurd e (by decide +kernel)))]
  exact o9 ok r
 | S,_,.bind (w:=w) (x:=x) (k:=k) (a:=a) hw hx hk r=>by
  rw [dT,dTA,dTA,dTA,dTA,dTA,dT,dT,dT,bg,gZ (by rcases hw with e | e <;> simp [e])]
  show (true&&nmB x&&ks.contains k&&bg ks ts fs (dT a) (eR S x k))=true
  rw [zm hx,kq ok r,show ks.contains k=true from by simpa using hk]; rfl
 | S,_,.tie (t:=t) (l:=l) ht r=>by
  have nd:=List.nodup_append.mp ok.sn
  obtain⟨hn,hs⟩:=(ok.tn t ht).1
  have ne:t.nm≠"=":=fun e=>by
   have:=(hn.2.2 61 (by rw [e]; decide +kernel)).1
   omega
  rw [dT,dTA,dT,bg,iY ne (fun h=>hs (by simp only [YM,XB,or_false] at h; unfold sayWords; rcases h with h | h | h <;> simp [h])) (fun h=>hs (by simp only [YM,XB,or_false] at h; unfold sayWords; rcases h with h | h <;> simp [h])),u8 nd.1 ht]
  exact ki nd.2.1 r
theorem o9{ks:List Str}{ts:List aq}{fs:List ao}(ok:aU ks ts fs):∀ {S:Str→Option Str} {l:List Tr},fm ks ts fs S l→bO ks ts fs (dTA l) S=true
 | _,_,.nil=>rfl
 | _,_,.cons a r=>by rw [dTA,bO,kq ok a,o9 ok r]; rfl
end
mutual
theorem lg:∀ t:Tr,tupD (dT t)=dT t
 | .leaf x=>by rw [dT]; rfl
 | .node ts=>by rw [dT,tupD,pN ts]
theorem pN:∀ ts:List Tr,be (dTA ts)=dTA ts
 | []=>rfl
 | t::ts=>by rw [dTA,be,lg t,pN ts]
end
mutual
theorem zfw:∀ t:Tr,Lk t (dT t)
 | .leaf x=>by rw [dT]; exact .leaf x
 | .node ts=>by rw [dT]; exact .tup (zfx ts)
theorem zfx:∀ ts:List Tr,LkA ts (dTA ts)
 | []=>by rw [dTA]; exact .nil
 | t::ts=>by rw [dTA]; exact .cons (zfw t) (zfx ts)
end
theorem Fit.pr{D W:Nat}{t:Tr}{d:PyData}(h:Fit D W t)(l:Lk t d):Pr D W d:=⟨zbw l,by rw [zbx l]; exact h.dp,zb0 l h.lw,YE (zbz l) h.wt⟩
mutual
theorem dB{H:Hp}:∀ {v:V} {t:Tr},Tup H v t→Rd0 H v (dT t)
 | _,_,.leaf x=>by rw [dT]; exact .str x
 | _,_,.node h r=>by rw [dT]; exact .tup trivial h (lE r)
theorem lE{H:Hp}:∀ {v:List V} {t:List Tr},de H v t→aB H v (dTA t)
 | _,_,.nil=>.nil
 | _,_,.cons a r=>by rw [dTA]; exact .cons (dB a) (lE r)
end
mutual
theorem pF{H:Hp}{p:Addr}(hp:bf H p):∀ {v:V} {t:Tr},Mix H v t→∃ d,RdD (fun a=>a≠p) H v d∧Lk t d
 | _,_,.leaf x=>⟨_,.str x,.leaf x⟩
 | _,_,.node (.inl h) r=>let ⟨ds,a,b⟩:=jb hp r; ⟨_,.lst (n6 hp (.inl h) r) h a,.lst b⟩
 | _,_,.node (.inr h) r=>let ⟨ds,a,b⟩:=jb hp r; ⟨_,.tup (n6 hp (.inr h) r) h a,.tup b⟩
theorem jb{H:Hp}{p:Addr}(hp:bf H p):∀ {v:List V} {t:List Tr},fh H v t→∃ d,RdB (fun a=>a≠p) H v d∧LkA t d
 | _,_,.nil=>⟨_,.nil,.nil⟩
 | _,_,.cons h r=>let ⟨_,a,b⟩:=pF hp h; let ⟨_,c,d⟩:=jb hp r; ⟨_,.cons a c,.cons b d⟩
end
theorem LkA.len:∀ {ts:List Tr} {ds:List PyData},LkA ts ds→ds.length=ts.length
 | _,_,.nil=>rfl
 | _,_,.cons _ r=>congrArg Nat.succ (LkA.len r)
theorem zfy{ts:List Tr}{d:PyData}(h:Lk (.node ts) d)(hl:ts.length≤51)(k:∀ ds,LkA ts ds→bY 51 ds):dH 51 d:=by
 cases h with
 | lst r=>rw [dH]; exact⟨by rw [LkA.len r]; exact hl,k _ r⟩
 | tup r=>rw [dH]; exact⟨by rw [LkA.len r]; exact hl,k _ r⟩
theorem cm{x:Str}{ts:List Tr}{ds:List PyData}(h:LkA (.leaf x::ts) ds)(k:∀ ds,LkA ts ds→bY 51 ds):bY 51 ds:=by
 cases h with
 | cons a r=>cases a; rw [bY]; exact⟨trivial,k _ r⟩
mutual
theorem nq{fs:List ao}{S:Str→Option Str}(h2:∀ f∈fs,f.ps.length≤2):∀ {t:Tr} {k:Str},mW fs S t k→∀ {d:PyData},Lk t d→dH 51 d
 | _,_,.var _,_,l=>by cases l; trivial
 | _,_,.app hf r,_,l=>zfy l (by rw [YR,r.length]; have:=h2 _ hf; omega) fun ds l=>cm l fun ds l=>kh h2 r l
theorem kh{fs:List ao}{S:Str→Option Str}(h2:∀ f∈fs,f.ps.length≤2):∀ {ts:List Tr} {ps:List Str},dG fs S ts ps→∀ {ds:List PyData},LkA ts ds→bY 51 ds
 | _,_,.nil,_,l=>by cases l; trivial
 | _,_,.cons a r,_,.cons l lr=>by rw [bY]; exact⟨nq h2 a l,kh h2 r lr⟩
end
mutual
theorem km{ks:List Str}{ts:List aq}{fs:List ao}(ok:aU ks ts fs):∀ {S:Str→Option Str} {t:Tr},fN ks ts fs S t→∀ {d:PyData},Lk t d→dH 51 d
 | _,_,.eq ha hb,_,l=>zfy l (by show 3≤51; decide) fun ds l=>cm l fun ds l=>by
  cases l with
  | cons l1 l=>
  cases l with
  | cons l2 l=>
  cases l
  rw [bY,bY]
  exact⟨nq (fun f hf=>(ok.fn f hf).2.1) ha l1,nq (fun f hf=>(ok.fn f hf).2.1) hb l2,trivial⟩
 | _,_,.not ha,_,l=>zfy l (by show 2≤51; decide) fun ds l=>cm l fun ds l=>by
  cases l with
  | cons l1 l=>
  cases l
  rw [bY]
  exact⟨km ok ha l1,trivial⟩
 | _,_,.conn _ hl r,_,l=>zfy l (by rw [YR]; omega) fun ds l=>cm l fun ds l=>o6 ok r l
 | _,_,.bind _ _ _ r,_,l=>zfy l (by show 4≤51; decide) fun ds l=>cm l fun ds l=>cm l fun ds l=>cm l fun ds l=>by
  cases l with
  | cons l1 l=>
  cases l
  rw [bY]
  exact⟨km ok r l1,trivial⟩
 | _,_,.tie ht r,_,l=>zfy l (by rw [YR,r.length]; have:=(ok.tn _ ht).2.1; omega) fun ds l=>cm l fun ds l=>kh (fun f hf=>(ok.fn f hf).2.1) r l
theorem o6{ks:List Str}{ts:List aq}{fs:List ao}(ok:aU ks ts fs):∀ {S:Str→Option Str} {l:List Tr},fm ks ts fs S l→∀ {ds:List PyData},LkA l ds→bY 51 ds
 | _,_,.nil,_,l=>by cases l; trivial
 | _,_,.cons a r,_,.cons l lr=>by rw [bY]; exact⟨km ok a l,o6 ok r lr⟩
end
theorem zfz:LD "Signs":=by decide +kernel
theorem zf0:LD "_law_as":=by decide +kernel
theorem zf1:LD "_law_before":=by decide +kernel
theorem zf2:LS "_law_before":=by decide +kernel
theorem zf3:LD "_law_book":=by decide +kernel
theorem zf4:LD "_law_cell":=by decide +kernel
theorem zf5:LD "_law_due":=by decide +kernel
theorem zf6:LD "_law_due_here":=by decide +kernel
theorem zf7:LS "_law_due_here":=by decide +kernel
theorem zf8:LD "_law_first":=by decide +kernel
theorem zf9:LS "_law_first":=by decide +kernel
theorem zga:LD "_law_number":=by decide +kernel
theorem zgb:LS "_law_number":=by decide +kernel
theorem zgc:LD "_law_odd_here":=by decide +kernel
theorem zgd:LS "_law_odd_here":=by decide +kernel
theorem zge:LD "_law_of_text":=by decide +kernel
theorem zgf:LD "_law_other":=by decide +kernel
theorem zgg:LS "_law_other":=by decide +kernel
theorem zgh:LD "_law_pot":=by decide +kernel
theorem zgi:LD "_law_saying":=by decide +kernel
theorem zgj:LD "_law_script":=by decide +kernel
theorem zgk:LS "_law_script":=by decide +kernel
theorem zgl:LD "_law_spoilt":=by decide +kernel
theorem zgm:LD "_law_told":=by decide +kernel
theorem zgn:LD "_law_whole":=by decide +kernel
theorem zgo:LS "_law_whole":=by decide +kernel
theorem zgp:LD "_law_within":=by decide +kernel
theorem zgq:LD "_law_written":=by decide +kernel
theorem zgr:LD "repr":=by decide +kernel
theorem zgs:LM "repr":=by decide +kernel
theorem jE{R:Addr→Prop}{H:Hp}:∀ {ts:List aq} {tv:List V},RdA R H tv (ts.map lF)→∃ ab:List (Addr×Addr),tv=ab.map (fun q=>V.ref q.1)∧Sgs H ab (ts.map rJ)
 | [],_,.nil=>⟨[],rfl,.nil⟩
 | t::r,_,.cons a b=>by
  obtain⟨ab,rfl,hs⟩:=jE b
  obtain⟨q1,qx,rfl,_,h1,h2⟩:=RdV.tuple_inv a
  obtain⟨u,v,rfl,hu,hv⟩:=h2.two
  obtain rfl:=hu.str_inv
  obtain⟨q2,qy,rfl,_,h3,h4⟩:=hv.list_inv
  obtain rfl:=h4.strs_inv
  exact⟨(q1,q2)::ab,rfl,.cons ⟨.inr h1,.inl h3⟩ hs⟩
theorem jS{R:Addr→Prop}{H:Hp}:∀ {ts:List ao} {tv:List V},RdA R H tv (ts.map lb)→∃ ab:List (Addr×Addr),tv=ab.map (fun q=>V.ref q.1)∧Sgs H ab (ts.map uA)
 | [],_,.nil=>⟨[],rfl,.nil⟩
 | t::r,_,.cons a b=>by
  obtain⟨ab,rfl,hs⟩:=jS b
  obtain⟨q1,qx,rfl,_,h1,h2⟩:=RdV.tuple_inv a
  obtain⟨u,v,x,rfl,hu,hv,hx⟩:=h2.three
  obtain rfl:=hu.str_inv
  obtain rfl:=hx.str_inv
  obtain⟨q2,qy,rfl,_,h3,h4⟩:=hv.list_inv
  obtain rfl:=h4.strs_inv
  exact⟨(q1,q2)::ab,rfl,.cons ⟨.inr h1,.inl h3⟩ hs⟩
theorem wj{xs:List V}{lo hi:Option Int}{y:V}(h:y∈fK xs lo hi):y∈xs:=List.mem_of_mem_drop (List.mem_of_mem_take h)
structure j9(C:Addr)(H:Hp)(p b x:Addr)(v:V)(t:Tr)(ks:List Str)(ts:List aq)(fs:List ao):Prop where
 pot:bf H p
 bk:fO H p b ks ts fs
 nx:x≠p
 sg:aQ C H x ks ts fs
 tp:Tup H v t
theorem j9.went{C:Addr}{H H':Hp}{p b x:Addr}{v:V}{t:Tr}{ks:List Str}{ts:List aq}{fs:List ao}(h:j9 C H p b x v t ks ts fs)(w:aw p H H'):j9 C H' p b x v t ks ts fs:=
 ⟨w.pot,RdV.went h.bk w.same,h.nx,h.sg.keep (fun o e=>w.same x o h.nx e) (bJ h.pot w.same),dk (bJ h.pot w.same) h.tp⟩
theorem j9.grow{C:Addr}{H H':Hp}{p b x:Addr}{v:V}{t:Tr}{ks:List Str}{ts:List aq}{fs:List ao}(h:j9 C H p b x v t ks ts fs)(s:al H H'):aw p H H':=⟨h.pot.keep s,s.x⟩
structure jA(p:Addr)(H:Hp)(n W k:Nat)(v:V)(d:PyData):Prop where
 rd:RdD (fun a=>a≠p) H v d
 pr:Pr n W d
 wd:dH k d
theorem jA.went{p:Addr}{H H':Hp}{n W k:Nat}{v:V}{d:PyData}(h:jA p H n W k v d)(w:aw p H H'):jA p H' n W k v d:=⟨h.rd.mono (fun _ z=>z) fun a o z e=>w.same a o z e,h.pr,h.wd⟩
theorem jA.mono{p:Addr}{H:Hp}{n W k n' W' k':Nat}{v:V}{d:PyData}(h:jA p H n W k v d)(h1:n≤n')(h2:W≤W')(h3:k≤k'):jA p H n' W' k' v d:=⟨h.rd,h.pr.mono h1 h2,dR h3 h.wd⟩
theorem Pr.two{n W:Nat}{z:Str}{d:PyData}(hz:dI z=true)(h:Pr n W d):Pr (n+1) (W+20) (.tuple [.str z,d]):=by
 unfold dI at hz
 rw [YW] at hz
 have h2:=of_decide_eq_true hz.2
 refine Prs.tup (fun x hx=>?_) (by rw [YG,YG,YG,Y4]; have:=h.wt; omega)
 rcases YM.mp hx with rfl | hx
 ·exact⟨rfl,hz.1,YO _⟩
 ·rw [YK.mp hx]
  exact⟨h.sh,h.lv,h.dp⟩
theorem vw:Pr 0 20 (.bool true):=⟨rfl,YO _,rfl,YO _⟩
theorem uK{n W:Nat}{b:Bool}{d:PyData}(h:Pr n W d):Pr (n+1) (W+40) (jw b d):=by
 cases b with
 | true=>exact(Pr.two (z:="told") (by decide +kernel) h.tupD).mono (YD _) (by omega)
 | false=>exact(Pr.two (z:="refused") (by decide +kernel) vw).mono (by omega) (by omega)
theorem Pr.ok{n W:Nat}{d:PyData}(h:Pr n W d)(h1:n≤60)(h2:W≤1000000):d.showable=true∧d.depth≤60∧d.shown.length≤sizeLine:=h.fits h1 (YE h2 (by decide))
def ke(b:Bool):Str:=if b then "told" else "refused"
theorem uL{H:Hp}{p:Addr}{b:Bool}{d:PyData}(h:Rd0 H (.ref p) (jw b d)):∃ y,H p=some (.tup [.str (ke b),y])∧(b=true→Rd0 H y (tupD d)):=by
 cases b with
 | true=>
  cases h with
  | tup _ e r=>cases r with
   | cons a r=>cases a; cases r with
    | cons a r=>cases r; exact⟨_,e,fun _=>a⟩
 | false=>
  cases h with
  | tup _ e r=>cases r with
   | cons a r=>cases a; cases r with
    | cons a r=>cases r; exact⟨_,e,fun z=>by cases z⟩
theorem jZ{H:Hp}{p:Addr}{b:Bool}(h:Rd0 H (.ref p) (zy b)):H p=some (.tup [.str (ke b),.bl true]):=by
 cases h with
 | tup _ e r=>cases r with
  | cons a r=>cases a; cases r with
   | cons a r=>cases a; cases r; exact e
def OdT(ks:List Str)(ts:List aq)(fs:List ao)(p:Addr)(H:Hp)(y:V):Prop:=∃ d,RdD (fun a=>a≠p) H y d∧d.depth≤13∧d.weight≤100000∧oz ks ts fs d=sk
theorem wb{ks:List Str}{ts:List aq}{fs:List ao}{p q0 q1 q2 q3:Addr}{G:Hp}(e0:G q0=some (.dK []))(e1:G q1=some (.dK [(.inr "and",.int 1)]))(e2:G q2=some (.tup [.str "and"]))(e3:G q3=some (.lst [.str "and"]))(n0:q0≠p)(n1:q1≠p)(n2:q2≠p)(n3:q3≠p):
  ∀ y∈[V.non,.int 7,.str "",.str "and",.ref q0,.ref q1,.ref q2,.bl true,.ref q3],OdT ks ts fs p G y:=fun y hy=>by
 simp only [YM,XB,or_false] at hy
 rcases hy with rfl | rfl | rfl | rfl | rfl | rfl | rfl | rfl | rfl
 ·exact⟨_,.non,by decide +kernel,by decide +kernel,rfl⟩
 ·exact⟨_,.int 7,by decide +kernel,by decide +kernel,rfl⟩
 ·exact⟨_,.str "",by decide +kernel,by decide +kernel,rfl⟩
 ·exact⟨_,.str "and",by decide +kernel,by decide +kernel,rfl⟩
 ·exact⟨_,.d0 n0 e0,by decide +kernel,by decide +kernel,rfl⟩
 ·exact⟨_,.d1 n1 e1,by decide +kernel,by decide +kernel,rfl⟩
 ·exact⟨_,.tup n2 e2 (.cons (.str _) .nil),by decide +kernel,by decide +kernel,rfl⟩
 ·exact⟨_,.bl true,by decide +kernel,by decide +kernel,rfl⟩
 ·exact⟨_,.lst n3 e3 (.cons (.str _) .nil),by decide +kernel,by decide +kernel,rfl⟩
theorem nM{H H':Hp}{p:Addr}{v:V}{d e:PyData}(hp:bf H p)(h:Rd0 H v e)(z:e=tupD d)(s:av p H H'):Rd0 H' v e:=by
 obtain⟨x,y,w,ep,_⟩:=hp
 exact cA ((nN ep h d z).mono (fun _ z=>z) fun a o z e=>s a o z e)
theorem wJ{H H':Hp}{p:Addr}{v:V}{b:Bool}{d:PyData}(hp:bf H p)(h:Rd0 H v (jw b d))(s:av p H H'):Rd0 H' v (jw b d):=by
 cases b
 ·exact nM (d:=sk) hp h rfl s
 ·exact nM (d:=.tuple [.str "told",d]) hp h rfl s
section
abbrev aR:Stmt:=top 73
theorem zgt:ai ["_law_script","_law_number","_law_pot_here","_law_book_here","_law_signs","_law_first","_law_thing","_law_k","_law_other","_law_before","_law_due_here","_law_odd_here","_law_rows","_law_whole"] lE7 (ag aR):=⟨rfl,rfl,rfl,by decide +kernel,rfl,by decide +kernel,by decide +kernel⟩
theorem zgu:LN .globalImplicit aR "Signs":=by decide +kernel
theorem zgv:LN .globalImplicit aR "_law_as":=by decide +kernel
theorem zgw:LN .local aR "_law_before":=by decide +kernel
theorem zgx:LN .globalImplicit aR "_law_book":=by decide +kernel
theorem zgy:LN .local aR "_law_book_here":=by decide +kernel
theorem zgz:LN .globalImplicit aR "_law_cell":=by decide +kernel
theorem zg0:LN .globalImplicit aR "_law_draw":=by decide +kernel
theorem zg1:LN .globalImplicit aR "_law_due":=by decide +kernel
theorem zg2:LN .local aR "_law_due_here":=by decide +kernel
theorem zg3:LN .local aR "_law_first":=by decide +kernel
theorem zg4:LN .local aR "_law_k":=by decide +kernel
theorem zg5:LN .local aR "_law_number":=by decide +kernel
theorem zg6:LN .local aR "_law_odd_here":=by decide +kernel
theorem zg7:LN .globalImplicit aR "_law_of_text":=by decide +kernel
theorem zg8:LN .local aR "_law_other":=by decide +kernel
theorem zg9:LN .globalImplicit aR "_law_pot":=by decide +kernel
theorem zha:LN .local aR "_law_pot_here":=by decide +kernel
theorem zhb:LN .local aR "_law_rows":=by decide +kernel
theorem zhc:LN .globalImplicit aR "_law_saying":=by decide +kernel
theorem zhd:LN .local aR "_law_script":=by decide +kernel
theorem zhe:LN .local aR "_law_signs":=by decide +kernel
theorem zhf:LN .globalImplicit aR "_law_spoilt":=by decide +kernel
theorem zhg:LN .local aR "_law_thing":=by decide +kernel
theorem zhh:LN .globalImplicit aR "_law_told":=by decide +kernel
theorem zhi:LN .local aR "_law_whole":=by decide +kernel
theorem zhj:LN .globalImplicit aR "_law_within":=by decide +kernel
theorem zhk:LN .globalImplicit aR "_law_written":=by decide +kernel
theorem zhl:LN .globalImplicit aR "range":=by decide +kernel
theorem zhm:LN .globalImplicit aR "repr":=by decide +kernel
inductive spLaw(K:WB)(vs:List V)(H:Hp)(Q:VK)(e3_:XK):Prop | mk (a:Addr) (ns:List Int) (_:vs=[.ref a]) (_:SqL K H a (ns.map V.int)) (_:ns.length≤63) (_:∀ H',Q (.bl true) H')
theorem yg{C fI fL:Addr}{fdI fdL:FuncData}(F:Fun K "law" "law" aR fL fdL)(Z:Bl mg)(D_law_cell:Def P w K mg base "_law_cell" 1 lC8 (spCell (K:=K)))(D_law_pot:Def P w K mg base "_law_pot" 1 lD4 spPot)(D_law_draw:Def P w K mg base "_law_draw" 1 lA5 spDraw)
  (D_law_book:Def P w K mg base "_law_book" 3 lB5 spBook) (D_law_saying:Def P w K mg base "_law_saying" 12 lB3 spSaying)
  (D_law_as:Def P w K mg base "_law_as" (7+2) lB2 (spAs 7)) (D_law_spoilt:∀ n,Def P w K mg base "_law_spoilt" (n+3) lA6 (spSpo n)) (D_law_within:Def P w K mg base "_law_within" (12+2) lA8 (spWin 12))
  (D_law_due:Def P w K mg base "_law_due" 29 lC5 spDue) (D_law_told:Def P w K mg base "_law_told" 31 lB4 (spTold C)) (D_law_written:Def P w K mg base "_law_written" 32 lB4 (spLWr C)) (D_law_of_text:Def P w K mg base "_law_of_text" 34 lD0 (spOfT C))
  (M_Signs:Mk K C fI) (G_Signs:cC P w K mg base CX0 5 fI fdI lB8 (spInit C)) (m_Signs:mg "Signs"=some (.ref C)) (b_Signs:ce K fdI lB8 []) :
  cC P w K mg base CX0 35 fL fdL lE7 (spLaw K):=by
 have SC:=zgt
 replace D_law_spoilt:=D_law_spoilt 11
 refine F.ok (k:=34) zgt (fun vs H Q E h=>?_) (fun cdv A outer s H vs Q E hr h=>?_)
 ·obtain⟨a,ns,rfl,_⟩:=h
  rfl
 ·obtain⟨aS,ns,rfl,hS,hns,q⟩:=h
  refine'⟨_,?dv,?_⟩
  case dv=>refine' au ?Aa ?Ba;(case Aa=>refine' nQ ?Ca ?Da ?Ea ?Fa ?Ga ?Ha;(case Ca=>exact PassesOwn.never);(case Da=>exact rfl);(case Ea=>refine' fz ?Ia;case Ia=>refine' dX ?Ja ?Ka ?La;(case Ja=>exact eY);(case Ka=>refine' dP ?Ma;case Ma=>refine' ad ?Na ?Oa ?Pa;(case Na=>refine' bx (hdb:=zf4) ?Qa ?Ra ?Sa ?Ta ?Ua ?Va;(case Qa=>exact D_law_cell);(case Ra=>exact(hr.mono (by omega)));(case Sa=>exact zgz);(case Ta=>refine' ad ?Wa ?Xa ?Ya;(case Wa=>exact(pq 0 (az zhd) zgj zgk));(case Xa=>refine' ad ?Za ?Ab ?Bb;(case Za=>exact aX);(case Ab=>exact am);case Bb=>rfl);case Ya=>rfl);(case Ua=>rfl);case Va=>rfl);(case Oa=>exact am);case Pa=>rfl);case La=>refine' gt ?Cb ?Db ?Eb ?Fb;(case Cb=>exact sl_list);(case Db=>exact(pq 0 (az zhd) zgj zgk));(case Eb=>refine' kK ?Gb;case Gb=>exact aX);case Fb=>refine' kK ?Hb;case Hb=>exact aX);(case Fa=>refine' d9 (i:=1) (x:=Str.ofString "_law_number") ?Ib ?Jb ?Kb ?Lb;(case Ib=>exact SC.nd);(case Jb=>exact rfl);(case Kb=>exact(Or.inl zg5));case Lb=>exact(.inl rfl));(case Ga=>refine' au ?Mb ?Nb;(case Mb=>refine' aZ (i:=2) (x:=Str.ofString "_law_pot_here") ?Ob ?Pb ?Qb ?Rb ?Sb ?Tb;(case Ob=>exact SC.nd);(case Pb=>exact rfl);(case Qb=>exact(Or.inl zha));(case Rb=>refine' bx (hdb:=zgh) ?Ub ?Vb ?Wb ?Xb ?Yb ?Zb;(case Ub=>exact D_law_pot);(case Vb=>exact(hr.mono (by omega)));(case Wb=>exact zg9);(case Xb=>refine' ad ?Ac ?Bc ?Cc;(case Ac=>exact(pq 1 (az zg5) zga zgb));(case Bc=>exact am);case Cc=>rfl);(case Yb=>rfl);case Zb=>rfl);(case Sb=>rfl);case Tb=>exact .inl rfl);case Nb=>refine' au ?Dc ?Ec;(case Dc=>refine' aZ (i:=3) (x:=Str.ofString "_law_book_here") ?Fc ?Gc ?Hc ?Ic ?Jc ?Kc;(case Fc=>exact SC.nd);(case Gc=>exact rfl);(case Hc=>exact(Or.inl zgy));(case Ic=>refine' bx (hdb:=zf3) ?Lc ?Mc ?Nc ?Oc ?Pc ?Qc;(case Lc=>exact D_law_book);(case Mc=>exact(hr.mono (by omega)));(case Nc=>exact zgx);(case Oc=>refine' ad ?Rc ?Sc ?Tc;(case Rc=>exact(pq 2 (az zha) zc5 zc6));(case Sc=>refine' ad ?Uc ?Vc ?Wc;(case Uc=>exact aX);(case Vc=>refine' ad ?Xc ?Yc ?Zc;(case Xc=>exact aX);(case Yc=>exact am);case Zc=>rfl);case Wc=>rfl);case Tc=>rfl);(case Pc=>rfl);case Qc=>rfl);(case Jc=>rfl);case Kc=>exact .inl rfl);case Ec=>refine' au ?Ad ?Bd;(case Ad=>refine' aZ (i:=4) (x:=Str.ofString "_law_signs") ?Cd ?Dd ?Ed ?Fd ?Gd ?Hd;(case Cd=>exact SC.nd);(case Dd=>exact rfl);(case Ed=>exact(Or.inl zhe));(case Fd=>refine' kL (hdb:=zfz) ?Id ?Jd ?Kd ?Ld ?Md ?Nd ?Od ?Pd ?Qd ?Rd ?Sd;(case Id=>exact M_Signs);(case Jd=>exact G_Signs);(case Kd=>exact(hr.mono (by omega)));(case Ld=>exact zgu);(case Md=>exact m_Signs);(case Nd=>exact b_Signs);(case Od=>exact .nil);(case Pd=>exact lR);(case Qd=>refine' ad ?Td ?Ud ?Vd;(case Td=>refine' cY ?Wd ?Xd ?Yd ?Zd;(case Wd=>exact ix_tup);(case Xd=>exact(pq 3 (az zgy) zcw zcx));(case Yd=>exact aX);case Zd=>intro _ _;exact rfl);(case Ud=>refine' ad ?Ae ?Be ?Ce;(case Ae=>refine' cY ?De ?Ee ?Fe ?Ge;(case De=>exact ix_tup);(case Ee=>exact(pq 3 (az zgy) zcw zcx));(case Fe=>exact aX);case Ge=>intro _ _;exact rfl);(case Be=>refine' ad ?He ?Ie ?Je;(case He=>refine' cY ?Ke ?Le ?Me ?Ne;(case Ke=>exact ix_tup);(case Le=>exact(pq 3 (az zgy) zcw zcx));(case Me=>exact aX);case Ne=>intro _ _;exact rfl);(case Ie=>exact am);case Je=>rfl);case Ce=>rfl);case Vd=>rfl);(case Rd=>rfl);case Sd=>rfl);(case Gd=>rfl);case Hd=>exact .inl rfl);case Bd=>refine' au ?Oe ?Pe;(case Oe=>refine' aZ (i:=5) (x:=Str.ofString "_law_first") ?Qe ?Re ?Se ?Te ?Ue ?Ve;(case Qe=>exact SC.nd);(case Re=>exact rfl);(case Se=>exact(Or.inl zg3));(case Te=>refine' bx (hdb:=zgi) ?We ?Xe ?Ye ?Ze ?Af ?Bf;(case We=>exact D_law_saying);(case Xe=>exact(hr.mono (by omega)));(case Ye=>exact zhc);(case Ze=>refine' ad ?Cf ?Df ?Ef;(case Cf=>exact(pq 2 (az zha) zc5 zc6));(case Df=>refine' ad ?Ff ?Gf ?Hf;(case Ff=>exact(pq 3 (az zgy) zcw zcx));(case Gf=>refine' ad ?If ?Jf ?Kf;(case If=>exact aX);(case Jf=>exact am);case Kf=>rfl);case Hf=>rfl);case Ef=>rfl);(case Af=>rfl);case Bf=>rfl);(case Ue=>rfl);case Ve=>exact .inl rfl);case Pe=>refine' au ?Lf ?Mf;(case Lf=>refine' aZ (i:=6) (x:=Str.ofString "_law_thing") ?Nf ?Of ?Pf ?Qf ?Rf ?Sf;(case Nf=>exact SC.nd);(case Of=>exact rfl);(case Pf=>exact(Or.inl zhg));(case Qf=>refine' bx (hdb:=zf0) ?Tf ?Uf ?Vf ?Wf ?Xf ?Yf;(case Tf=>exact D_law_as);(case Uf=>exact(hr.mono (by omega)));(case Vf=>exact zgv);(case Wf=>refine' ad ?Zf ?Ag ?Bg;(case Zf=>exact(pq 2 (az zha) zc5 zc6));(case Ag=>refine' ad ?Cg ?Dg ?Eg;(case Cg=>refine' bx (hdb:=zgi) ?Fg ?Gg ?Hg ?Ig ?Jg ?Kg;(case Fg=>exact D_law_saying);(case Gg=>exact(hr.mono (by omega)));(case Hg=>exact zhc);(case Ig=>refine' ad ?Lg ?Mg ?Ng;(case Lg=>exact(pq 2 (az zha) zc5 zc6));(case Mg=>refine' ad ?Og ?Pg ?Qg;(case Og=>exact(pq 3 (az zgy) zcw zcx));(case Pg=>refine' ad ?Rg ?Sg ?Tg;(case Rg=>exact aX);(case Sg=>exact am);case Tg=>rfl);case Qg=>rfl);case Ng=>rfl);(case Jg=>rfl);case Kg=>rfl);(case Dg=>exact am);case Eg=>rfl);case Bg=>rfl);(case Xf=>rfl);case Yf=>rfl);(case Rf=>rfl);case Sf=>exact .inl rfl);case Mf=>refine' au ?Ug ?Vg;(case Ug=>refine' nQ ?Wg ?Xg ?Yg ?Zg ?Ah ?Bh;(case Wg=>exact PassesOwn.never);(case Xg=>exact rfl);(case Yg=>refine' jH ?Ch ?Dh ?Eh ?Fh;(case Ch=>exact zhl);(case Dh=>exact Z.n_range);(case Eh=>refine' ad ?Gh ?Hh ?Ih;(case Gh=>refine' dX ?Jh ?Kh ?Lh;(case Jh=>exact sO);(case Kh=>refine' bx (hdb:=zcy) ?Mh ?Nh ?Oh ?Ph ?Qh ?Rh;(case Mh=>exact D_law_draw);(case Nh=>exact(hr.mono (by omega)));(case Oh=>exact zg0);(case Ph=>refine' ad ?Sh ?Th ?Uh;(case Sh=>exact(pq 2 (az zha) zc5 zc6));(case Th=>refine' ad ?Vh ?Wh ?Xh;(case Vh=>exact aX);(case Wh=>exact am);case Xh=>rfl);case Uh=>rfl);(case Qh=>rfl);case Rh=>rfl);case Lh=>exact aX);(case Hh=>exact am);case Ih=>rfl);case Fh=>rfl);(case Zg=>refine' d9 (i:=7) (x:=Str.ofString "_law_k") ?Yh ?Zh ?Ai ?Bi;(case Yh=>exact SC.nd);(case Zh=>exact rfl);(case Ai=>exact(Or.inl zg4));case Bi=>exact(.inl rfl));(case Ah=>refine' au ?Ci ?Di;(case Ci=>refine' aZ (i:=8) (x:=Str.ofString "_law_other") ?Ei ?Fi ?Gi ?Hi ?Ii ?Ji;(case Ei=>exact SC.nd);(case Fi=>exact rfl);(case Gi=>exact(Or.inl zg8));(case Hi=>refine' bx (hdb:=zgl) ?Ki ?Li ?Mi ?Ni ?Oi ?Pi;(case Ki=>exact D_law_spoilt);(case Li=>exact(hr.mono (by omega)));(case Mi=>exact zhf);(case Ni=>refine' ad ?Qi ?Ri ?Si;(case Qi=>exact(pq 2 (az zha) zc5 zc6));(case Ri=>refine' ad ?Ti ?Ui ?Vi;(case Ti=>exact(pq 3 (az zgy) zcw zcx));(case Ui=>refine' ad ?Wi ?Xi ?Yi;(case Wi=>exact(pq 6 (az zhg) zd9 zea));(case Xi=>exact am);case Yi=>rfl);case Vi=>rfl);case Si=>rfl);(case Oi=>rfl);case Pi=>rfl);(case Ii=>rfl);case Ji=>exact .inl rfl);case Di=>refine' aL ?Zi;case Zi=>refine' iq ?Aj ?Bj ?Cj;(case Aj=>refine' br ?Dj ?Ej ?Fj ?Gj;(case Dj=>exact wX);(case Ej=>refine' bx (hdb:=zgp) ?Hj ?Ij ?Jj ?Kj ?Lj ?Mj;(case Hj=>exact D_law_within);(case Ij=>exact(hr.mono (by omega)));(case Jj=>exact zhj);(case Kj=>refine' ad ?Nj ?Oj ?Pj;(case Nj=>exact(pq 8 (az zg8) zgf zgg));(case Oj=>exact am);case Pj=>rfl);(case Lj=>rfl);case Mj=>rfl);(case Fj=>exact aX);case Gj=>exact(dQ _));(case Bj=>refine' aL ?Qj;case Qj=>refine' aZ (i:=6) (x:=Str.ofString "_law_thing") ?Rj ?Sj ?Tj ?Uj ?Vj ?Wj;(case Rj=>exact SC.nd);(case Sj=>exact rfl);(case Tj=>exact(Or.inl zhg));(case Uj=>exact(pq 8 (az zg8) zgf zgg));(case Vj=>rfl);case Wj=>exact .inl rfl);case Cj=>exact dC);case Bh=>intro _; rfl);case Vg=>refine' au ?Xj ?Yj;(case Xj=>refine' aZ (i:=9) (x:=Str.ofString "_law_before") ?Zj ?Ak ?Bk ?Ck ?Dk ?Ek;(case Zj=>exact SC.nd);(case Ak=>exact rfl);(case Bk=>exact(Or.inl zgw));(case Ck=>refine' aJ (hn:=zgs) (hdb:=zgr) ?Fk ?Gk ?Hk ?Ik ?Jk ?Kk ?Lk;(case Fk=>exact(bE hr));(case Gk=>exact zhm);(case Hk=>exact Z.n_repr);(case Ik=>exact cM);(case Jk=>refine' ad ?Mk ?Nk ?Ok;(case Mk=>exact(pq 6 (az zhg) zd9 zea));(case Nk=>exact am);case Ok=>rfl);(case Kk=>rfl);case Lk=>rfl);(case Dk=>rfl);case Ek=>exact .inl rfl);case Yj=>refine' au ?Pk ?Qk;(case Pk=>refine' aZ (i:=10) (x:=Str.ofString "_law_due_here") ?Rk ?Sk ?Tk ?Uk ?Vk ?Wk;(case Rk=>exact SC.nd);(case Sk=>exact rfl);(case Tk=>exact(Or.inl zg2));(case Uk=>refine' bx (hdb:=zf5) ?Xk ?Yk ?Zk ?Al ?Bl ?Cl;(case Xk=>exact D_law_due);(case Yk=>exact(hr.mono (by omega)));(case Zk=>exact zg1);(case Al=>refine' ad ?Dl ?El ?Fl;(case Dl=>exact(pq 3 (az zgy) zcw zcx));(case El=>refine' ad ?Gl ?Hl ?Il;(case Gl=>exact(pq 6 (az zhg) zd9 zea));(case Hl=>exact am);case Il=>rfl);case Fl=>rfl);(case Bl=>rfl);case Cl=>rfl);(case Vk=>rfl);case Wk=>exact .inl rfl);case Qk=>refine' au ?Jl ?Kl;(case Jl=>refine' iq ?Ll ?Ml ?Nl;(case Ll=>refine' PW.pt ?Ol;case Ol=>refine' pi ?Pl ?Ql;(case Pl=>refine' br ?Rl ?Sl ?Tl ?Ul;(case Rl=>exact lV);(case Sl=>refine' aJ (hn:=zgs) (hdb:=zgr) ?Vl ?Wl ?Xl ?Yl ?Zl ?Am ?Bm;(case Vl=>exact(bE hr));(case Wl=>exact zhm);(case Xl=>exact Z.n_repr);(case Yl=>exact cM);(case Zl=>refine' ad ?Cm ?Dm ?Em;(case Cm=>refine' bx (hdb:=zgm) ?Fm ?Gm ?Hm ?Im ?Jm ?Km;(case Fm=>exact D_law_told);(case Gm=>exact(hr.mono (by omega)));(case Hm=>exact zhh);(case Im=>refine' ad ?Lm ?Mm ?Nm;(case Lm=>exact(pq 4 (az zhe) zd7 zd8));(case Mm=>refine' ad ?Om ?Pm ?Qm;(case Om=>exact(pq 6 (az zhg) zd9 zea));(case Pm=>exact am);case Qm=>rfl);case Nm=>rfl);(case Jm=>rfl);case Km=>rfl);(case Dm=>exact am);case Em=>rfl);(case Am=>rfl);case Bm=>rfl);(case Tl=>refine' aJ (hn:=zgs) (hdb:=zgr) ?Rm ?Sm ?Tm ?Um ?Vm ?Wm ?Xm;(case Rm=>exact(bE hr));(case Sm=>exact zhm);(case Tm=>exact Z.n_repr);(case Um=>exact cM);(case Vm=>refine' ad ?Ym ?Zm ?An;(case Ym=>exact(pq 10 (az zg2) zf6 zf7));(case Zm=>exact am);case An=>rfl);(case Wm=>rfl);case Xm=>rfl);case Ul=>exact(dQ _));case Ql=>refine' kH ?Bn;case Bn=>refine' br ?Cn ?Dn ?En ?Fn;(case Cn=>exact lV);(case Dn=>refine' aJ (hn:=zgs) (hdb:=zgr) ?Gn ?Hn ?In ?Jn ?Kn ?Ln ?Mn;(case Gn=>exact(bE hr));(case Hn=>exact zhm);(case In=>exact Z.n_repr);(case Jn=>exact cM);(case Kn=>refine' ad ?Nn ?On ?Pn;(case Nn=>exact(pq 6 (az zhg) zd9 zea));(case On=>exact am);case Pn=>rfl);(case Ln=>rfl);case Mn=>rfl);(case En=>exact(pq 9 (az zgw) zf1 zf2));case Fn=>exact(dQ _));(case Ml=>refine' aL ?Qn;case Qn=>refine' cB ?Rn;case Rn=>exact eC);case Nl=>exact dC);case Kl=>refine' au ?Sn ?Tn;(case Sn=>refine' iq ?Un ?Vn ?Wn;(case Un=>refine' br ?Xn ?Yn ?Zn ?Ao;(case Xn=>exact(kQ (eE hr)));(case Yn=>refine' bx (hdb:=zgq) ?Bo ?Co ?Do ?Eo ?Fo ?Go;(case Bo=>exact D_law_written);(case Co=>exact(hr.mono (by omega)));(case Do=>exact zhk);(case Eo=>refine' ad ?Ho ?Io ?Jo;(case Ho=>exact(pq 4 (az zhe) zd7 zd8));(case Io=>refine' ad ?Ko ?Lo ?Mo;(case Ko=>exact(pq 6 (az zhg) zd9 zea));(case Lo=>exact am);case Mo=>rfl);case Jo=>rfl);(case Fo=>rfl);case Go=>rfl);(case Zn=>refine' bq ?No;case No=>refine' ad ?Oo ?Po ?Qo;(case Oo=>refine' cY ?Ro ?So ?To ?Uo;(case Ro=>exact ix_tup);(case So=>exact(pq 10 (az zg2) zf6 zf7));(case To=>exact aX);case Uo=>intro _ _;exact rfl);(case Po=>refine' ad ?Vo ?Wo ?Xo;(case Vo=>exact eC);(case Wo=>exact am);case Xo=>rfl);case Qo=>rfl);case Ao=>exact(dQ _));(case Vn=>refine' aL ?Yo;case Yo=>refine' cB ?Zo;case Zo=>exact eC);case Wn=>exact dC);case Tn=>refine' au ?Ap ?Bp;(case Ap=>refine' aZ (i:=11) (x:=Str.ofString "_law_odd_here") ?Cp ?Dp ?Ep ?Fp ?Gp ?Hp;(case Cp=>exact SC.nd);(case Dp=>exact rfl);(case Ep=>exact(Or.inl zg6));(case Fp=>refine' cY ?Ip ?Jp ?Kp ?Lp;(case Ip=>exact ix_list);(case Jp=>refine' dP ?Mp;case Mp=>refine' ad ?Np ?Op ?Pp;(case Np=>exact hJ);(case Op=>refine' ad ?Qp ?Rp ?Sp;(case Qp=>exact aX);(case Rp=>refine' ad ?Tp ?Up ?Vp;(case Tp=>exact aA);(case Up=>refine' ad ?Wp ?Xp ?Yp;(case Wp=>exact aA);(case Xp=>refine' ad ?Zp ?Aq ?Bq;(case Zp=>exact gu);(case Aq=>refine' ad ?Cq ?Dq ?Eq;(case Cq=>refine' pv ?Fq ?Gq ?Hq ?Iq ?Jq;(case Fq=>refine' lO ?Kq ?Lq ?Mq;(case Kq=>exact aA);(case Lq=>exact aX);case Mq=>exact pj);(case Gq=>exact rfl);(case Hq=>exact rfl);(case Iq=>exact(by simp));case Jq=>exact(by decide));(case Dq=>refine' ad ?Nq ?Oq ?Pq;(case Nq=>refine' bq ?Qq;case Qq=>refine' ad ?Rq ?Sq ?Tq;(case Rq=>exact aA);(case Sq=>exact am);case Tq=>rfl);(case Oq=>refine' ad ?Uq ?Vq ?Wq;(case Uq=>exact eC);(case Vq=>refine' ad ?Xq ?Yq ?Zq;(case Xq=>refine' dP ?Ar;case Ar=>refine' ad ?Br ?Cr ?Dr;(case Br=>exact aA);(case Cr=>exact am);case Dr=>rfl);(case Yq=>exact am);case Zq=>rfl);case Wq=>rfl);case Pq=>rfl);case Eq=>rfl);case Bq=>rfl);case Yp=>rfl);case Vp=>rfl);case Sp=>rfl);case Pp=>rfl);(case Kp=>refine' bx (hdb:=zcy) ?Er ?Fr ?Gr ?Hr ?Ir ?Jr;(case Er=>exact D_law_draw);(case Fr=>exact(hr.mono (by omega)));(case Gr=>exact zg0);(case Hr=>refine' ad ?Kr ?Lr ?Mr;(case Kr=>exact(pq 2 (az zha) zc5 zc6));(case Lr=>refine' ad ?Nr ?Or ?Pr;(case Nr=>exact aX);(case Or=>exact am);case Pr=>rfl);case Mr=>rfl);(case Ir=>rfl);case Jr=>rfl);case Lp=>intro _ _;exact rfl);(case Gp=>rfl);case Hp=>exact .inl rfl);case Bp=>refine' au ?Qr ?Rr;(case Qr=>refine' iq ?Sr ?Tr ?Ur;(case Sr=>refine' br ?Vr ?Wr ?Xr ?Yr;(case Vr=>exact(kQ (eE hr)));(case Wr=>refine' bx (hdb:=zge) ?Zr ?As ?Bs ?Cs ?Ds ?Es;(case Zr=>exact D_law_of_text);(case As=>exact(hr.mono (by omega)));(case Bs=>exact zg7);(case Cs=>refine' ad ?Fs ?Gs ?Hs;(case Fs=>exact(pq 4 (az zhe) zd7 zd8));(case Gs=>refine' ad ?Is ?Js ?Ks;(case Is=>exact(pq 11 (az zg6) zgc zgd));(case Js=>exact am);case Ks=>rfl);case Hs=>rfl);(case Ds=>rfl);case Es=>rfl);(case Xr=>refine' bq ?Ls;case Ls=>refine' ad ?Ms ?Ns ?Os;(case Ms=>exact aA);(case Ns=>refine' ad ?Ps ?Qs ?Rs;(case Ps=>exact eC);(case Qs=>exact am);case Rs=>rfl);case Os=>rfl);case Yr=>exact(dQ _));(case Tr=>refine' aL ?Ss;case Ss=>refine' cB ?Ts;case Ts=>exact eC);case Ur=>exact dC);case Rr=>refine' au ?Us ?Vs;(case Us=>refine' aZ (i:=12) (x:=Str.ofString "_law_rows") ?Ws ?Xs ?Ys ?Zs ?At ?Bt;(case Ws=>exact SC.nd);(case Xs=>exact rfl);(case Ys=>exact(Or.inl zhb));(case Zs=>refine' i5 ?Ct ?Dt ?Et;(case Ct=>refine' br ?Ft ?Gt ?Ht ?It;(case Ft=>exact sR);(case Gt=>refine' cY ?Jt ?Kt ?Lt ?Mt;(case Jt=>exact ix_tup);(case Kt=>exact(pq 10 (az zg2) zf6 zf7));(case Lt=>exact aX);case Mt=>intro _ _;exact rfl);(case Ht=>exact aA);case It=>exact(dQ _));(case Dt=>refine' dP ?Nt;case Nt=>refine' ad ?Ot ?Pt ?Qt;(case Ot=>exact(pq 5 (az zg3) zf8 zf9));(case Pt=>refine' ad ?Rt ?St ?Tt;(case Rt=>exact(pq 6 (az zhg) zd9 zea));(case St=>exact am);case Tt=>rfl);case Qt=>rfl);case Et=>refine' dP ?Ut;case Ut=>refine' ad ?Vt ?Wt ?Xt;(case Vt=>exact(pq 6 (az zhg) zd9 zea));(case Wt=>refine' ad ?Yt ?Zt ?Au;(case Yt=>exact(pq 5 (az zg3) zf8 zf9));(case Zt=>exact am);case Au=>rfl);case Xt=>rfl);(case At=>rfl);case Bt=>exact .inl rfl);case Vs=>refine' au ?Bu ?Cu;(case Bu=>refine' aZ (i:=13) (x:=Str.ofString "_law_whole") ?Du ?Eu ?Fu ?Gu ?Hu ?Iu;(case Du=>exact SC.nd);(case Eu=>exact rfl);(case Fu=>exact(Or.inl zhi));(case Gu=>refine' i5 ?Ju ?Ku ?Lu;(case Ju=>refine' br ?Mu ?Nu ?Ou ?Pu;(case Mu=>exact sR);(case Nu=>refine' cY ?Qu ?Ru ?Su ?Tu;(case Qu=>exact ix_tup);(case Ru=>exact(pq 10 (az zg2) zf6 zf7));(case Su=>exact aX);case Tu=>intro _ _;exact rfl);(case Ou=>exact aA);case Pu=>exact(dQ _));(case Ku=>exact(pq 10 (az zg2) zf6 zf7));case Lu=>refine' bq ?Uu;case Uu=>refine' ad ?Vu ?Wu ?Xu;(case Vu=>exact aA);(case Wu=>refine' ad ?Yu ?Zu ?Av;(case Yu=>refine' dP ?Bv;case Bv=>refine' ad ?Cv ?Dv ?Ev;(case Cv=>refine' cY ?Fv ?Gv ?Hv ?Iv;(case Fv=>exact ix_tup);(case Gv=>exact(pq 10 (az zg2) zf6 zf7));(case Hv=>exact aX);case Iv=>intro _ _;exact rfl);(case Dv=>refine' ad ?Jv ?Kv ?Lv;(case Jv=>exact(pq 5 (az zg3) zf8 zf9));(case Kv=>exact am);case Lv=>rfl);case Ev=>rfl);(case Zu=>exact am);case Av=>rfl);case Xu=>rfl);(case Hu=>rfl);case Iu=>exact .inl rfl);case Cu=>refine' aL ?Mv;case Mv=>refine' iq ?Nv ?Ov ?Pv;(case Nv=>refine' PW.pt ?Qv;case Qv=>refine' pi ?Rv ?Sv;(case Rv=>refine' br ?Tv ?Uv ?Vv ?Wv;(case Tv=>exact lV);(case Uv=>refine' aJ (hn:=zgs) (hdb:=zgr) ?Xv ?Yv ?Zv ?Aw ?Bw ?Cw ?Dw;(case Xv=>exact(bE hr));(case Yv=>exact zhm);(case Zv=>exact Z.n_repr);(case Aw=>exact cM);(case Bw=>refine' ad ?Ew ?Fw ?Gw;(case Ew=>refine' bx (hdb:=zge) ?Hw ?Iw ?Jw ?Kw ?Lw ?Mw;(case Hw=>exact D_law_of_text);(case Iw=>exact(hr.mono (by omega)));(case Jw=>exact zg7);(case Kw=>refine' ad ?Nw ?Ow ?Pw;(case Nw=>exact(pq 4 (az zhe) zd7 zd8));(case Ow=>refine' ad ?Qw ?Rw ?Sw;(case Qw=>exact(pq 12 (az zhb) zfg zfh));(case Rw=>exact am);case Sw=>rfl);case Pw=>rfl);(case Lw=>rfl);case Mw=>rfl);(case Fw=>exact am);case Gw=>rfl);(case Cw=>rfl);case Dw=>rfl);(case Vv=>refine' aJ (hn:=zgs) (hdb:=zgr) ?Tw ?Uw ?Vw ?Ww ?Xw ?Yw ?Zw;(case Tw=>exact(bE hr));(case Uw=>exact zhm);(case Vw=>exact Z.n_repr);(case Ww=>exact cM);(case Xw=>refine' ad ?Ax ?Bx ?Cx;(case Ax=>exact(pq 13 (az zhi) zgn zgo));(case Bx=>exact am);case Cx=>rfl);(case Yw=>rfl);case Zw=>rfl);case Wv=>exact(dQ _));case Sv=>refine' kH ?Dx;case Dx=>refine' br ?Ex ?Fx ?Gx ?Hx;(case Ex=>exact lV);(case Fx=>refine' aJ (hn:=zgs) (hdb:=zgr) ?Ix ?Jx ?Kx ?Lx ?Mx ?Nx ?Ox;(case Ix=>exact(bE hr));(case Jx=>exact zhm);(case Kx=>exact Z.n_repr);(case Lx=>exact cM);(case Mx=>refine' ad ?Px ?Qx ?Rx;(case Px=>refine' bx (hdb:=zgm) ?Sx ?Tx ?Ux ?Vx ?Wx ?Xx;(case Sx=>exact D_law_told);(case Tx=>exact(hr.mono (by omega)));(case Ux=>exact zhh);(case Vx=>refine' ad ?Yx ?Zx ?Ay;(case Yx=>exact(pq 4 (az zhe) zd7 zd8));(case Zx=>refine' ad ?By ?Cy ?Dy;(case By=>exact(pq 5 (az zg3) zf8 zf9));(case Cy=>exact am);case Dy=>rfl);case Ay=>rfl);(case Wx=>rfl);case Xx=>rfl);(case Qx=>exact am);case Rx=>rfl);(case Nx=>rfl);case Ox=>rfl);(case Gx=>refine' aJ (hn:=zgs) (hdb:=zgr) ?Ey ?Fy ?Gy ?Hy ?Iy ?Jy ?Ky;(case Ey=>exact(bE hr));(case Fy=>exact zhm);(case Gy=>exact Z.n_repr);(case Hy=>exact cM);(case Iy=>refine' ad ?Ly ?My ?Ny;(case Ly=>refine' bq ?Oy;case Oy=>refine' ad ?Py ?Qy ?Ry;(case Py=>exact aA);(case Qy=>refine' ad ?Sy ?Ty ?Uy;(case Sy=>exact(pq 5 (az zg3) zf8 zf9));(case Ty=>exact am);case Uy=>rfl);case Ry=>rfl);(case My=>exact am);case Ny=>rfl);(case Jy=>rfl);case Ky=>rfl);case Hx=>exact(dQ _));(case Ov=>refine' aL ?Vy;case Vy=>refine' cB ?Wy;case Wy=>exact eC);case Pv=>exact dC);case Ha=>intro _; rfl);case Ba=>refine' aL ?Xy;case Xy=>refine' cB ?Yy;case Yy=>exact eC
  refine⟨_,rfl,aS,ns,0,rfl,hS,fun n0=>?_⟩
  refine⟨by show 1≤sizeLine; decide,fun l1 hl1=>?_⟩
  have s1:=ac hl1 (.lst [.int n0])
  refine⟨_,rfl,_,rfl,_,rfl,aS,_,rfl,s1.seq hS,fun l2 hl2=>?_⟩
  have s2:=ac hl2 (.lst (fK (ns.map V.int) (some 1) (some 8)))
  have cl:=fg (ns.map V.int) (some 1) (some 8)
  rw [YC] at cl
  refine⟨l1,l2,_,_,rfl,rfl,s2 _ _ aa,aa,YE (show 1+(fK (ns.map V.int) (some 1) (some 8)).length≤100 by omega) (by decide),fun L hL=>?_⟩
  generalize hxs:[V.int n0]++fK (ns.map V.int) (some 1) (some 8)=xs
  have allI:∀ y∈xs,∃ z,y=V.int z:=fun y hy=>by
   rw [← hxs] at hy
   rcases Y3.mp hy with hy | hy
   ·exact⟨n0,YK.mp hy⟩
   ·obtain⟨z,_,rfl⟩:=XR.mp (wj hy)
    exact⟨z,rfl⟩
  have hLx:(upd (upd (upd H l1 (.lst [.int n0])) l2 (.lst (fK (ns.map V.int) (some 1) (some 8)))) L (.lst xs)) L=some (.lst xs):=aa
  generalize (upd (upd (upd H l1 (.lst [.int n0])) l2 (.lst (fK (ns.map V.int) (some 1) (some 8)))) L (.lst xs))=HL at hLx
  refine⟨L,rfl,⟨_,SqL.of hLx⟩,jm (K:=K) (a:=L) (xs:=xs) (fun i σ H2=>∃ vs':List (Option V),vs'.length=13∧σ=some (.ref aS)::vs'∧al HL H2)
   ⟨_,rfl,rfl,al.refl _⟩ (by rintro i σ H2 _ ⟨_,_,_,z⟩;exact SqL.of (z _ _ hLx)) ?_ ?_⟩
  case refine_2=>
   rintro σ H2 ⟨_,_,rfl,_⟩
   exact q H2
  rintro i y σ H2 hi ⟨vs',hvs,rfl,sL⟩
  obtain⟨n,rfl⟩:=allI y (YU hi)
  obtain⟨v1,v2,v3,v4,v5,v6,v7,v8,v9,v10,v11,v12,v13,rfl⟩:=Few.le13 hvs
  refine⟨_,rfl,n,rfl,fun p H3 hp pot3 s3=>?_⟩
  refine⟨_,rfl,p,3,6,rfl,pot3,by decide,by decide,by decide,fun bv H4 ks ts fs rb ok _ _ W4=>?_⟩
  have np3:∀ a,H3 a=none→a≠p:=fun a e=>by rintro rfl; obtain⟨o,e2⟩:=pot3.some; rw [e] at e2; cases e2
  have rb4:RdV (fun a=>a≠p) H4 bv (pQ ks ts fs):=rb.mono (fun a z=>np3 a z) fun _ _ _ e=>e
  obtain⟨b,_,rfl,_,_,_⟩:=id (RdV.tuple_inv rb4)
  obtain⟨kA,tA,fA,tv,fv,b1,nk,k1,nt,t1,t2,nf,f1,f2⟩:=fO.open rb4
  refine⟨_,rfl,b,_,_,_,rfl,rfl,SqT.of b1,rfl,_,rfl,b,_,_,_,rfl,rfl,SqT.of b1,rfl,_,rfl,b,_,_,_,rfl,rfl,SqT.of b1,rfl,fun x dx hx hd nd=>?_⟩
  have s6:=g6 (CB:=C) hx hd nd
  obtain⟨ab,rfl,sab⟩:=jE (t2.same s6)
  obtain⟨cd,rfl,scd⟩:=jS (f2.same s6)
  refine⟨x,dx,kA,tA,fA,ab,cd,ks,ts,fs,rfl,aa,.inl (s6 _ _ k1),.inl (s6 _ _ t1),sab,.inl (s6 _ _ f1),scd,ok,fun H7 g7 x7=>⟨rfl,?_⟩⟩
  have s47:=df hx s6 x7
  have W37:aw p H3 H7:=⟨W4.pot.keep s47,W4.same.same s47⟩
  have nx:x≠p:=np3 _ (W4.free hx)
  have rb7:fO H7 p b ks ts fs:=RdV.same s47 rb4
  refine⟨_,rfl,_,rfl,p,b,ks,ts,fs,rfl,W37.pot,rb7,ok,fun v H8 t tp sy ft w8=>?_⟩
  have E8:j9 C H8 p b x v t ks ts fs:=⟨w8.pot,RdV.went rb7 w8.same,nx,g7.keep (fun o e=>w8.same x o nx e) (bJ W37.pot w8.same),tp⟩
  have hsy:=kq ok sy
  have pr1:Pr 7 20000 (dT t):=ft.pr (zfw t)
  refine⟨_,rfl,_,rfl,_,rfl,p,b,ks,ts,fs,rfl,E8.pot,E8.bk,ok,fun vq H9 tq tpq syq ftq w9=>?_⟩
  have E9:=E8.went w9
  refine⟨p,vq,tq,rfl,E9.pot,tpq,ftq.dp,ftq.wt,fun u H10 mu w10=>?_⟩
  obtain⟨d0,rd0,lk0⟩:=pF w10.pot mu
  have T10:jA p H10 7 20000 51 u d0:=⟨rd0,ftq.pr lk0,km ok syq lk0⟩
  have E10:=E9.went w10
  have W310:=((W37.trans w8).trans w9).trans w10
  refine⟨_,rfl,p,4,rfl,E10.pot,by decide,by decide,fun r H11 r0 r1 p11 s11=>⟨_,_,rfl,rfl,r-1,rfl,by omega,by omega,?_⟩⟩
  have w11:aw p H10 H11:=⟨p11,s11⟩
  have E11:=E10.went w11
  have nn:(r-1).toNat≤2:=by omega
  refine qM (fun i σ H'=>∃ (o7 o8:Option V) (u:V) (d:PyData),σ=[some (.ref aS),some (.int n),some (.ref p),some (.ref b),some (.ref x),some v,some u,o7,o8,v9,v10,v11,v12,v13]∧aw p H11 H'∧jA p H' (7+2*i) (20000+50*i) (51+i) u d)
   ⟨_,_,u,d0,rfl,aw.refl p11,T10.went w11⟩ ?_ ?_
  ·rintro i σ H12 hi ⟨o7,o8,u,d,rfl,w12,T12⟩
   have E12:=E11.went w12
   refine⟨_,rfl,_,rfl,_,rfl,p,b,u,ks,ts,fs,fun a=>a≠p,d,7+2*i,20000+50*i,51+i,by omega,rfl,E12.pot,E12.bk,ok,(fun a z=>by rintro rfl; obtain⟨o,e2⟩:=E12.pot.some; rw [z] at e2; cases e2),fun a z=>z,T12.rd,T12.pr,T12.wd,by omega,by omega,fun u' H13 d' r' p' x' w13=>?_⟩
   have T13:jA p H13 (7+2*(i+1)) (20000+50*(i+1)) (51+(i+1)) u' d':=⟨r',p'.mono (by omega) (by omega),dR (by omega) x'⟩
   refine⟨_,rfl,u',d',rfl,cA r',YE p'.dp (by omega),YE p'.wt (by omega),fun m H14 s14=>⟨_,_,rfl,rfl,_,rfl,?_⟩⟩
   have w14:aw p H13 H14:=⟨w13.pot.keep s14,s14.x⟩
   by_cases hm:m≤3
   ·exact ifT (by simpa using hm) ⟨_,rfl,_,_,u',d',rfl,(w12.trans w13).trans w14,T13.went w14⟩
   ·exact ifF (by simpa using hm) ⟨_,_,u,d,rfl,(w12.trans w13).trans w14,((T12.went w13).went w14).mono (by omega) (by omega) (by omega)⟩
  rintro σ H12 ⟨o7,o8,u,d,rfl,w12,T12⟩
  replace T12:jA p H12 11 20100 53 u d:=T12.mono (by omega) (by omega) (by omega)
  have E12:=E11.went w12
  have W312:=(W310.trans w11).trans w12
  have hdd:d.depth≤12:=YE T12.pr.dp (by decide)
  have hdw:d.weight≤100000:=YE T12.pr.wt (by decide)
  obtain⟨c1,c2,c3⟩:=T12.pr.ok (by decide) (by decide)
  refine⟨_,rfl,_,u,d,rfl,T12.rd,c1,c2,c3,?_⟩
  have bkr:∀ {H'},aw p H12 H'→BkR H' b ks ts fs:=fun w'=>RdV.mono (fun _ _=>trivial) (fun _ _ _ e=>e) (E12.went w').bk
  refine⟨_,rfl,_,rfl,b,u,ks,ts,fs,d,rfl,bkr (aw.refl E12.pot),ok,cA T12.rd,hdd,hdw,fun pd H13 s13 rdd=>?_⟩
  have w13:=E12.grow s13
  have E13:=E12.went w13
  have T13:=T12.went w13
  obtain⟨e1,e2,e3⟩:=(uK (b:=bg ks ts fs d S0) T12.pr).ok (by decide) (by decide)
  refine⟨_,rfl,_,rfl,x,u,ks,ts,fs,d,rfl,E13.sg,ok,cA T13.rd,hdd,hdw,fun pt H14 s14 rdt=>?_⟩
  have w14:=E13.grow s14
  have E14:=E13.went w14
  have T14:=T13.went w14
  refine⟨_,.ref pt,_,rfl,rdt,e1,e2,e3,_,rfl,_,.ref pd,_,rfl,Rd0.same rdd s14,e1,e2,e3,rfl,_,rfl,ifF (by simp) ?_⟩
  refine⟨_,rfl,_,u,d,rfl,T14.rd,c1,c2,c3,_,rfl,rfl,_,rfl,ifF (by simp) ?_⟩
  refine⟨_,rfl,_,rfl,x,u,ks,ts,fs,d,rfl,E14.sg,ok,cA T14.rd,hdd,hdw,fun pw H15 s15 rdw=>?_⟩
  have w15:=E14.grow s15
  have E15:=E14.went w15
  have T15:=T14.went w15
  have rdd15:=Rd0.same rdd (s14.trans s15)
  obtain⟨yd,epd,hyd⟩:=uL rdd15
  have epw:=jZ rdw
  refine⟨_,rfl,pd,_,_,_,rfl,rfl,SqT.of epd,rfl,by show 2≤sizeLine; decide,fun t5 ht5=>?_⟩
  have s16:=ac ht5 (.tup [.str (ke (bg ks ts fs d S0)),.bl true])
  refine⟨pw,t5,_,rfl,rfl,SqT.of (s16 _ _ epw),SqT.of aa,rfl,_,rfl,ifF (by simp) ?_⟩
  have w16:=E15.grow s16
  have E16:=E15.went w16
  have T16:=T15.went w16
  have epd16:=s16 _ _ epd
  have hyd16:bg ks ts fs d S0=true→Rd0 _ yd (tupD d):=fun h=>Rd0.same (hyd h) s16
  have rdd16:=Rd0.same rdd15 s16
  have W316:=((W312.trans w13).trans w14).trans (w15.trans w16)
  generalize (upd H15 t5 (.tup [.str (ke (bg ks ts fs d S0)),.bl true]))=H16 at w16 E16 T16 epd16 hyd16 rdd16 W316
  obtain⟨f1',f2',f3'⟩:=(uK (b:=true) pr1).ok (by decide) (by decide)
  intro q0 hq0 q1 hq1
  refine⟨aa,[(.inr "and",.int 1)],rfl,by decide,?_⟩
  have sq0:=ac hq0 (.dK [])
  have sq1:al (upd H16 q0 (.dK [])) (upd (upd (upd H16 q0 (.dK [])) q1 (.dK [])) q1 (.dK [(.inr "and",.int 1)])):=fun c o e=>by rw [ae (af e hq1)]; exact ac hq1 _ c o e
  have eq0:=sq1 _ _ (aa (H:=H16) (a:=q0) (o:=.dK []))
  have eq1:(upd (upd (upd H16 q0 (.dK [])) q1 (.dK [])) q1 (.dK [(.inr "and",.int 1)])) q1=some (.dK [(.inr "and",.int 1)]):=aa
  have sQ:=sq0.trans sq1
  show iP _ _ _ (upd (upd (upd H16 q0 (.dK [])) q1 (.dK [])) q1 (.dK [(.inr "and",.int 1)])) _
  generalize (upd (upd (upd H16 q0 (.dK [])) q1 (.dK [])) q1 (.dK [(.inr "and",.int 1)]))=G1 at eq0 eq1 sQ
  refine⟨by show 1≤sizeLine; decide,fun q2 hq2=>⟨by show 1≤sizeLine; decide,fun q3 hq3=>⟨by show 9≤sizeLine; decide,fun q4 hq4=>?_⟩⟩⟩
  have sq2:=ac hq2 (.tup [.str "and"])
  have sq3:=ac hq3 (.lst [.str "and"])
  have sq4:=ac hq4 (.lst [.non,.int 7,.str "",.str "and",.ref q0,.ref q1,.ref q2,.bl true,.ref q3])
  have sG:=((sQ.trans sq2).trans sq3).trans sq4
  have eq4:(upd (upd (upd G1 q2 (.tup [.str "and"])) q3 (.lst [.str "and"])) q4 (.lst [.non,.int 7,.str "",.str "and",.ref q0,.ref q1,.ref q2,.bl true,.ref q3])) q4=some (.lst [.non,.int 7,.str "",.str "and",.ref q0,.ref q1,.ref q2,.bl true,.ref q3]):=aa
  have ne:∀ {a o},(upd (upd (upd G1 q2 (.tup [.str "and"])) q3 (.lst [.str "and"])) q4 (.lst [.non,.int 7,.str "",.str "and",.ref q0,.ref q1,.ref q2,.bl true,.ref q3])) a=some o→(∀ x y z:Int,o≠.lst [.int x,.int y,.int z])→a≠p:=fun e h=>f8 (E16.grow sG).pot e h
  have odds:=wb (ks:=ks) (ts:=ts) (fs:=fs) (p:=p) ((((sq2.trans sq3).trans sq4) _ _ eq0)) (((sq2.trans sq3).trans sq4) _ _ eq1) ((sq3.trans sq4) _ _ aa) (sq4 _ _ aa) (ne (((sq2.trans sq3).trans sq4) _ _ eq0) (fun _ _ _ z=>nomatch z)) (ne (((sq2.trans sq3).trans sq4) _ _ eq1) (fun _ _ _ z=>nomatch z)) (ne ((sq3.trans sq4) _ _ aa) (fun _ _ _ z=>nomatch z)) (ne (sq4 _ _ aa) (fun _ _ _ z=>by injection z with z; cases z))
  have n4:q4≠p:=ne eq4 (fun _ _ _ z=>by injection z with z; cases z)
  have wG:=E16.grow sG
  generalize (upd (upd (upd G1 q2 (.tup [.str "and"])) q3 (.lst [.str "and"])) q4 (.lst [.non,.int 7,.str "",.str "and",.ref q0,.ref q1,.ref q2,.bl true,.ref q3]))=G2 at eq4 odds wG
  refine⟨_,rfl,p,9,rfl,wG.pot,by decide,by decide,fun r9 H17 r90 r91 p17 s17=>?_⟩
  have h9:r9.toNat<9:=by omega
  refine⟨q4,_,r9,[V.non,.int 7,.str "",.str "and",.ref q0,.ref q1,.ref q2,.bl true,.ref q3][r9.toNat]'h9,rfl,rfl,SqL.of (s17 _ _ n4 eq4),aH r90 (List.getElem?_eq_getElem h9),?_⟩
  obtain⟨dd,rdd',dd1,dd2,dd3⟩:=odds _ (XL h9)
  have w17:aw p H16 H17:=wG.mk1 p17 s17
  have E17:=E16.went w17
  have T17:=T16.went w17
  have rdo:Rd0 H17 _ dd:=cA (rdd'.mono (fun _ z=>z) fun a o z e=>s17 a o z e)
  generalize ([V.non,.int 7,.str "",.str "and",.ref q0,.ref q1,.ref q2,.bl true,.ref q3][r9.toNat]'h9)=y9 at rdo
  refine⟨_,rfl,_,rfl,x,y9,ks,ts,fs,dd,rfl,E17.sg,ok,rdo,dd1,dd2,fun po H18 s18 rdt'=>?_⟩
  rw [dd3] at rdt'
  have epo:=jZ (b:=false) rdt'
  refine⟨by show 2≤sizeLine; decide,fun t6 ht6=>?_⟩
  have s19:=ac ht6 (.tup [.str "refused",.bl true])
  refine⟨po,t6,_,rfl,rfl,SqT.of (s19 _ _ epo),SqT.of aa,rfl,_,rfl,ifF (by simp) ?_⟩
  have s179:=s18.trans s19
  have w19:=E17.grow s179
  have E19:=E17.went w19
  have T19:=T17.went w19
  have nP:pd≠p:=f8 E16.pot epd16 fun _ _ _ z=>nomatch z
  have epd19:=s179 _ _ (w17.same _ _ nP epd16)
  have W319:=W316.trans (w17.trans w19)
  have rdd19:Rd0 _ (.ref pd) (jw (bg ks ts fs d S0) d):=Rd0.same (wJ E16.pot rdd16 w17.same) s179
  have yd19:bg ks ts fs d S0=true→Rd0 _ yd (tupD d):=fun h=>Rd0.same (nM E16.pot (hyd16 h) rfl w17.same) s179
  generalize (upd H18 t6 (.tup [.str "refused",.bl true]))=H19 at w19 E19 T19 epd19 W319 rdd19 yd19
  have d1:=YE T12.pr.dp (show 11≤12 by decide)
  have p1:=pr1.dp
  have p2:=pr1.wt
  have p3:=T12.pr.wt
  cases hb:bg ks ts fs d S0 with
  | false=>
   rw [hb] at epd19 rdd19 e1 e2 e3
   refine⟨_,rfl,pd,_,_,_,rfl,rfl,SqT.of epd19,rfl,rfl,_,rfl,ifT (decide_eq_true rfl) ⟨_,rfl,_,rfl,by show 2≤sizeLine; decide,fun L5 hL5=>?_⟩⟩
   have s20:=ac hL5 (.lst [v,u])
   have w20:=E19.grow s20
   have E20:=E19.went w20
   have T20:=T19.went w20
   have rL:Rd0 (upd H19 L5 (.lst [v,u])) (.ref L5) (.list [dT t,d]):=.lst trivial aa (.cons (dB E20.tp) (.cons (cA T20.rd) .nil))
   have rP:=Rd0.same rdd19 s20
   have eP:=s20 _ _ epd19
   generalize (upd H19 L5 (.lst [v,u]))=H20 at s20 w20 E20 T20 rL rP eP
   refine⟨_,rfl,pd,_,_,_,rfl,rfl,SqT.of eP,rfl,rfl,_,rfl,ifT (decide_eq_true rfl) ⟨_,rfl,?_⟩⟩
   refine⟨_,rfl,_,rfl,x,.ref L5,ks,ts,fs,.list [dT t,d],rfl,E20.sg,ok,rL,by simp only [Y6,YQ]; omega,by simp only [Y4,YG]; omega,fun pr H21 s21 rdr=>?_⟩
   have eT:oz ks ts fs (.list [dT t,d])=jw false d:=by
    show (if bO ks ts fs [dT t,d] S0=true then _ else _)=_
    rw [bO,bO,hsy,hb]; rfl
   rw [eT] at rdr
   have E21:=E20.went (E20.grow s21)
   refine⟨_,.ref pr,_,rfl,rdr,e1,e2,e3,_,rfl,_,.ref pd,_,rfl,Rd0.same rP s21,e1,e2,e3,rfl,_,rfl,ifF (by simp) ?_⟩
   refine⟨_,rfl,_,rfl,x,v,ks,ts,fs,dT t,rfl,E21.sg,ok,dB E21.tp,YE pr1.dp (by decide),YE pr1.wt (by decide),fun pf H22 s22 rdf=>?_⟩
   rw [hsy] at rdf
   have E22:=E21.went (E21.grow s22)
   refine⟨_,.ref pf,_,rfl,rdf,f1',f2',f3',_,rfl,by show 2≤sizeLine; decide,fun t8 ht8=>?_⟩
   have s23:=ac ht8 (.tup [.str "told",v])
   have E23:=E22.went (E22.grow s23)
   refine⟨_,.ref t8,jw true (dT t),rfl,.tup trivial aa (.cons (.str _) (.cons (by rw [lg]; exact dB E23.tp) .nil)),f1',f2',f3',rfl,_,rfl,ifF (by simp) ?_⟩
   exact⟨_,rfl,rfl,sL.trans (df hp s3 ((((W319.trans w20).trans (E20.grow s21)).trans (E21.grow s22)).trans (E22.grow s23)).same)⟩
  | true=>
   rw [hb] at epd19
   have ry:=yd19 hb
   refine⟨_,rfl,pd,_,_,_,rfl,rfl,SqT.of epd19,rfl,rfl,_,rfl,ifF (by decide +kernel) ⟨_,rfl,_,rfl,by show 2≤sizeLine; decide,fun L5 hL5=>?_⟩⟩
   have s20:=ac hL5 (.lst [u,v])
   have w20:=E19.grow s20
   have E20:=E19.went w20
   have T20:=T19.went w20
   have rL:Rd0 (upd H19 L5 (.lst [u,v])) (.ref L5) (.list [d,dT t]):=.lst trivial aa (.cons (cA T20.rd) (.cons (dB E20.tp) .nil))
   have eP:=s20 _ _ epd19
   have ry20:=Rd0.same ry s20
   generalize (upd H19 L5 (.lst [u,v]))=H20 at s20 w20 E20 T20 rL eP ry20
   refine⟨_,rfl,pd,_,_,_,rfl,rfl,SqT.of eP,rfl,rfl,_,rfl,ifF (by decide +kernel) ⟨_,rfl,pd,_,_,_,rfl,rfl,SqT.of eP,rfl,_,rfl,by show 2≤sizeLine; decide,fun L6 hL6=>⟨by show 2≤sizeLine; decide,fun L7 hL7=>?_⟩⟩⟩
   have s24:=ac hL6 (.lst [yd,v])
   have s25:=ac hL7 (.tup [.str "told",.ref L6])
   have s245:=s24.trans s25
   have w25:=E20.grow s245
   have E25:=E20.went w25
   have T25:=T20.went w25
   have rL25:=Rd0.same rL s245
   have rW:Rd0 (upd (upd H20 L6 (.lst [yd,v])) L7 (.tup [.str "told",.ref L6])) (.ref L7) (.tuple [.str "told",.list [tupD d,dT t]]):=.tup trivial aa (.cons (.str _) (.cons (.lst trivial (s25 _ _ aa) (.cons (Rd0.same ry20 s245) (.cons (dB E25.tp) .nil))) .nil))
   generalize (upd (upd H20 L6 (.lst [yd,v])) L7 (.tup [.str "told",.ref L6]))=H25 at s25 s245 w25 E25 T25 rL25 rW
   refine⟨_,rfl,_,rfl,x,.ref L5,ks,ts,fs,.list [d,dT t],rfl,E25.sg,ok,rL25,by simp only [Y6,YQ]; omega,by simp only [Y4,YG]; omega,fun pr H21 s21 rdr=>?_⟩
   have eT:oz ks ts fs (.list [d,dT t])=.tuple [.str "told",.list [tupD d,dT t]]:=by
    show (if bO ks ts fs [d,dT t] S0=true then _ else _)=_
    rw [bO,bO,bO,hsy,hb,be,be,be,lg]; rfl
   rw [eT] at rdr
   have E21:=E25.went (E25.grow s21)
   have prW:Pr 13 50000 (.tuple [.str "told",.list [tupD d,dT t]]):=by
    refine(Pr.two (z:="told") (n:=12) (W:=49000) (by decide +kernel) (Prs.list (fun y hy=>?_) ?_)).mono (YD _) (by decide)
    ·rcases YM.mp hy with rfl | hy
     ·exact⟨T12.pr.tupD.sh,T12.pr.tupD.lv,T12.pr.tupD.dp⟩
     ·rw [YK.mp hy]
      exact⟨pr1.sh,pr1.lv,by omega⟩
    ·have:=T12.pr.tupD.wt
     simp only [YG]; omega
   obtain⟨g1,g2,g3⟩:=prW.ok (by decide) (by decide)
   refine⟨_,.ref pr,_,rfl,rdr,g1,g2,g3,_,rfl,_,.ref L7,_,rfl,Rd0.same rW s21,g1,g2,g3,rfl,_,rfl,ifF (by simp) ?_⟩
   refine⟨_,rfl,_,rfl,x,v,ks,ts,fs,dT t,rfl,E21.sg,ok,dB E21.tp,YE pr1.dp (by decide),YE pr1.wt (by decide),fun pf H22 s22 rdf=>?_⟩
   rw [hsy] at rdf
   have E22:=E21.went (E21.grow s22)
   refine⟨_,.ref pf,_,rfl,rdf,f1',f2',f3',_,rfl,by show 2≤sizeLine; decide,fun t8 ht8=>?_⟩
   have s23:=ac ht8 (.tup [.str "told",v])
   have E23:=E22.went (E22.grow s23)
   refine⟨_,.ref t8,jw true (dT t),rfl,.tup trivial aa (.cons (.str _) (.cons (by rw [lg]; exact dB E23.tp) .nil)),f1',f2',f3',rfl,_,rfl,ifF (by simp) ?_⟩
   exact⟨_,rfl,rfl,sL.trans (df hp s3 (((((W319.trans w20).trans w25).trans (E25.grow s21)).trans (E21.grow s22)).trans (E22.grow s23)).same)⟩
end
end Few
set_option maxHeartbeats 1000000
namespace FewE
open PySem L2 Few
theorem wI{K:WB}{mg:Str→Option Value}{x:Str}{C:Addr}(hb:mg x=some (.ref C))(q:PySem.W.excIn K C tZ "ValueError.__new__"=true):cX K mg x C:=by
 intro h X
 refine⟨hb,?_⟩
 unfold PySem.W.excIn at q
 split at q
 ·rename_i dd cd sl ho
  split at q
  ·rename_i C' bm k0 k1 k2 k3 n k5 hm hs
   simp only [YW,beq_iff_eq,Bool.not_eq_true'] at q
   obtain⟨⟨⟨⟨⟨rfl,rfl⟩,hdel⟩,ht⟩,hok⟩,hni⟩:=q
   obtain⟨nm,bs,mro,ns,qn,hd,sn,sub,ab,col,del⟩:=cd
   dsimp only at hm hdel hok hni
   subst hm hdel
   have hsl:sl=#[k0,k1,k2,k3,some (.builtin "ValueError.__new__"),k5]:=by
    obtain⟨l⟩:=sl
    simp only at hs
    rw [hs]
   subst hsl
   exact⟨bm,ns,nm,qn,bs,hd,sn,sub,ab,col,dd,k0,k1,k2,k3,k5,_,X _ _ ho,.of_isNs (PySem.W.isNs_of_in X hok),PySem.W.nsMap_none_of_in X hok hni,PySem.W.tail_of_in X ht⟩
  ·cases q
 ·cases q
end FewE
set_option maxHeartbeats 4000000
namespace FewE
open PySem L2 Few
theorem funAt_mk{K:WB}{h:Heap}{mg:Str→Option Value}{x:Str}{st:Stmt}{ps:List Str}{f:Addr}{oc kV dc pm cd ct:Value}{od an:Option Addr}{sl:Array (Option Value)}(X:K.In h)(G:h.Ns mainGlobals mg)
  (a:PySem.W.nsIn K mainGlobals x=some (some (.ref f))) (l:K.lookup f=some ⟨oc,od,.func (PySem.W.fnOf x x (cK st) (bD st) (ag st) .none kV dc pm an cd ct),sl⟩) (c:PySem.W.codeIn K cd x=true) (k:PySem.W.keepIn K (.ref f)=true)
  (b:∀ (kV doc pm:Value) (an:Option Addr) (cdv ct:Value) (us:List Value),us.length=ps.length→bindArgs (PySem.W.fnOf x x (cK st) (bD st) (ag st) .none kV doc pm an cdv ct) ⟨us,[]⟩=pure (ps.zip us)):ah K mg x st ps:=
 ⟨f,_,jk l c k,PySem.W.mg_of X G a,(jk (st:=st) l c k).binds b⟩
def fi(K:WB)(C:Addr)(x q:Str)(st:Stmt)(ps:List Str):Prop:=∃ (f:Addr) (fd:FuncData),Fun K x q st f fd∧ce K fd ps []∧PySem.W.findIn K (.ref C) x=some (some (.ref f))∧PySem.W.isFn K (.ref f)=true∧PySem.W.keepIn K (.ref f)=true
theorem methAt_mk{K:WB}{x q:Str}{st:Stmt}{ps:List Str}{C f:Addr}{oc kV dc pm cd ct:Value}{od an:Option Addr}{sl:Array (Option Value)}
  (a:PySem.W.findIn K (.ref C) x=some (some (.ref f))) (i:PySem.W.isFn K (.ref f)=true) (l:K.lookup f=some ⟨oc,od,.func (PySem.W.fnOf x q (cK st) (bD st) (ag st) .none kV dc pm an cd ct),sl⟩) (c:PySem.W.codeIn K cd q=true) (k:PySem.W.keepIn K (.ref f)=true)
  (b:∀ (kV doc pm:Value) (an:Option Addr) (cdv ct:Value) (us:List Value),us.length=ps.length→bindArgs (PySem.W.fnOf x q (cK st) (bD st) (ag st) .none kV doc pm an cdv ct) ⟨us,[]⟩=pure (ps.zip us)):fi K C x q st ps:=
 ⟨f,_,jk l c k,(jk (st:=st) l c k).binds b,a,i,k⟩
theorem all_mk{l:PySem.W.OpenLaw}{w:World}{K:WB}{h:Heap}{mg:Str→Option Value}{fa C CB CX wa N fe x1 x2 x3 x4 x5 x6 x7 x8:Addr}{cdN fcd:ClassData}{fdd:Option Addr}{fsl:Array (Option Value)}{f47:Addr}{oc47 kV47 dc47 pm47 cd47 ct47:Value}{od47 an47:Option Addr}{sl47:Array (Option Value)}{tL:Tok}{tI0:Tok}{tI1:Tok}{tI2:Tok}{tI3:Tok}{tI4:Tok}{tw0 tw1 tw2 tw3 tw4:Tok}{wd:Option Addr}{wn:Nat}{ws:Array (Option Value)}(X:K.In h)(G:h.Ns mainGlobals mg)(hfa:mg "law"=some (.ref fa))
  (F0:ah K mg "_law_cell" fX lC8)
  (F1:ah K mg "_law_pot" g8 lD4)
  (F2:ah K mg "_law_draw" fW lA5)
  (F3:ah K mg "_law_unlike" d6 lB9)
  (F4:ah K mg "_law_book" fY lB5)
  (F5:ah K mg "_law_meant" eU lE5)
  (F6:ah K mg "_law_variable" dm lB6)
  (F7:ah K mg "_law_term" dn lA3)
  (F8:ah K mg "_law_atom" fZ lA1)
  (F9:ah K mg "_law_saying_in" bG lA1)
  (F10:ah K mg "_law_saying" d7 lB3)
  (F11:ah K mg "_law_as" eV lB2)
  (F12:ah K mg "_law_odd" bh lC0)
  (F13:ah K mg "_law_spoilt" cx lA6)
  (F14:ah K mg "_law_within" cu lA8)
  (F15:ah K mg "_law_sign" fU lA9)
  (F16:ah K mg "_law_kind_of" cI lA0)
  (F17:ah K mg "_law_terms" cO lA2)
  (F18:ah K mg "_law_name" fV lA8)
  (F19:ah K mg "_law_bound" cP lA0)
  (F20:ah K mg "_law_is_saying" bH lA0)
  (F21:ah K mg "_law_tuples" cw lA8)
  (F22:ah K mg "_law_just" aI lE2)
  (F23:ah K mg "_law_told" bp lB4)
  (F24:ah K mg "_law_written" aD lB4)
  (F25:ah K mg "_law_of_text" aP lD0)
  (F26:ah K mg "_law_due" cF lC5)
  (F27:ah K mg "is_list" fu lB0)
  (F28:ah K mg "is_name" fq lB0)
  (F29:ah K mg "check_apart" dN lE6)
  (F30:ah K mg "checked_kinds" cT lE9)
  (F31:ah K mg "checked_kind" dq lD1)
  (F32:ah K mg "checked_places" cG lD3)
  (F33:ah K mg "checked_sign_name" b6 lE8)
  (F34:ah K mg "checked_tie" dM lE4)
  (F35:ah K mg "checked_function" cf lD9)
  (F36:ah K mg "check_many" d8 lC4)
  (F37:ah K mg "word_and_things" cr lD2)
  (F38:ah K mg "checked_row" b9 lA7)
  (F39:ah K mg "checked_term" cy lA4)
  (F40:ah K mg "checked_equation" bC lC1)
  (F41:ah K mg "checked_binding" bo lB1)
  (F42:ah K mg "checked_saying" bu lA4)
  (F43:ah K mg "looked_over" dL lC9)
  (F44:ah K mg "write_saying" dl lD7)
  (F45:ah K mg "written" dW lB0)
  (F46:ah K mg "all_looked_over" cz lD6)
  (a47:PySem.W.nsIn K mainGlobals "law"=some (some (.ref f47)))
  (l47:K.lookup f47=some ⟨oc47,od47,.func (PySem.W.fnOf "law" "law" (cK aR) (bD aR) (ag aR) .none kV47 dc47 pm47 an47 cd47 ct47),sl47⟩)
  (c47:PySem.W.codeIn K cd47 "law"=true)
  (k47:PySem.W.keepIn K (.ref f47)=true)
  (aC:PySem.W.nsIn K mainGlobals "Signs"=some (some (.ref C)))
  (aCB:PySem.W.nsIn K mainGlobals "SignTable"=some (some (.ref CB)))
  (aCX:PySem.W.nsIn K mainGlobals "Text"=some (some (.ref CX)))
  (M48:fi K C "__init__" "Signs.__init__" g9 lB8)
  (M49:fi K C "kinds" "Signs.kinds" kE lC3)
  (M50:fi K C "ties" "Signs.ties" nJ lC3)
  (M51:fi K C "functions" "Signs.functions" eW lC3)
  (M52:fi K CB "__init__" "SignTable.__init__" b7 lE1)
  (M53:fi K CX "__init__" "Text.__init__" dr lC6)
  (M54:fi K CX "sayings" "Text.sayings" dO lC3)
  (pg:PySem.W.plainGet K C Str.empty=true)
  (hd:PySem.W.hasDictIn K C=true)
  (po:PySem.W.plainOver K C=true)
  (sa:PySem.W.findIn K (.ref C) "__setattr__"=some (some (.builtin "object.__setattr__")))
  (mk:PySem.W.makesIn K C=true)
  (kc:PySem.W.keepIn K (.ref C)=true)
  (n0:PySem.W.findIn K (.ref C) "kept_kinds"=some none)
  (n1:PySem.W.findIn K (.ref C) "kept_ties"=some none)
  (n2:PySem.W.findIn K (.ref C) "kept_functions"=some none)
  (pgB:PySem.W.plainGet K CB Str.empty=true)
  (hdB:PySem.W.hasDictIn K CB=true)
  (poB:PySem.W.plainOver K CB=true)
  (saB:PySem.W.findIn K (.ref CB) "__setattr__"=some (some (.builtin "object.__setattr__")))
  (mkB:PySem.W.makesIn K CB=true)
  (kcB:PySem.W.keepIn K (.ref CB)=true)
  (n0B:PySem.W.findIn K (.ref CB) "known_kinds"=some none)
  (n1B:PySem.W.findIn K (.ref CB) "tie_places"=some none)
  (n2B:PySem.W.findIn K (.ref CB) "function_places"=some none)
  (n3B:PySem.W.findIn K (.ref CB) "function_kinds"=some none)
  (pgX:PySem.W.plainGet K CX Str.empty=true)
  (hdX:PySem.W.hasDictIn K CX=true)
  (poX:PySem.W.plainOver K CX=true)
  (saX:PySem.W.findIn K (.ref CX) "__setattr__"=some (some (.builtin "object.__setattr__")))
  (mkX:PySem.W.makesIn K CX=true)
  (kcX:PySem.W.keepIn K (.ref CX)=true)
  (n0X:PySem.W.findIn K (.ref CX) "kept_signs"=some none)
  (n1X:PySem.W.findIn K (.ref CX) "kept_sayings"=some none)
  (z_len:PySem.W.nsIn K mainGlobals "len"=some none)
  (z_max:PySem.W.nsIn K mainGlobals "max"=some none)
  (z_abs:PySem.W.nsIn K mainGlobals "abs"=some none)
  (z_divmod:PySem.W.nsIn K mainGlobals "divmod"=some none)
  (z_list:PySem.W.nsIn K mainGlobals "list"=some none)
  (z_tuple:PySem.W.nsIn K mainGlobals "tuple"=some none)
  (z_range:PySem.W.nsIn K mainGlobals "range"=some none)
  (z_int:PySem.W.nsIn K mainGlobals "int"=some none)
  (z_str:PySem.W.nsIn K mainGlobals "str"=some none)
  (z_repr:PySem.W.nsIn K mainGlobals "repr"=some none)
  (z_isinstance:PySem.W.nsIn K mainGlobals "isinstance"=some none)
  (z_all:PySem.W.nsIn K mainGlobals "all"=some none)
  (z_set:PySem.W.nsIn K mainGlobals "set"=some none)
  (z_dict:PySem.W.nsIn K mainGlobals "dict"=some none)
  (z_zip:PySem.W.nsIn K mainGlobals "zip"=some none)
  (z_ValueError:PySem.W.nsIn K mainGlobals "ValueError"=some none)
  (gL:PySem.W.nsIn K mainGlobals "LETTERS"=some (some (.str (Str.ofString "abcdefghijklmnopqrstuvwxyz") tL)))
  (gI0:PySem.W.nsIn K mainGlobals "LONGEST_NAME"=some (some (.int 12 tI0)))
  (gI1:PySem.W.nsIn K mainGlobals "MOST_KINDS"=some (some (.int 4 tI1)))
  (gI2:PySem.W.nsIn K mainGlobals "MOST_SIGNS"=some (some (.int 8 tI2)))
  (gI3:PySem.W.nsIn K mainGlobals "MOST_PLACES"=some (some (.int 2 tI3)))
  (gI4:PySem.W.nsIn K mainGlobals "DEEPEST"=some (some (.int 64 tI4)))
  (gW:PySem.W.nsIn K mainGlobals "WORDS_OF_SAYINGS"=some (some (.ref wa)))
  (lW:K.lookup wa=some ⟨.type "tuple",wd,.seq #[.str (Str.ofString "all") tw0,.str (Str.ofString "some") tw1,.str (Str.ofString "not") tw2,.str (Str.ofString "and") tw3,.str (Str.ofString "or") tw4] wn,ws⟩)
  (aN:PySem.W.nsIn K mainGlobals "NoSaying"=some (some (.ref N)))
  (aF:PySem.W.nsIn K mainGlobals "FewError"=some (some (.ref fe)))
  (aX1:PySem.W.nsIn K mainGlobals "NoNaming"=some (some (.ref x1)))
  (aX2:PySem.W.nsIn K mainGlobals "NoPart"=some (some (.ref x2)))
  (aX3:PySem.W.nsIn K mainGlobals "NoRow"=some (some (.ref x3)))
  (aX4:PySem.W.nsIn K mainGlobals "NoSigns"=some (some (.ref x4)))
  (aX5:PySem.W.nsIn K mainGlobals "NoSize"=some (some (.ref x5)))
  (aX6:PySem.W.nsIn K mainGlobals "NoText"=some (some (.ref x6)))
  (aX7:PySem.W.nsIn K mainGlobals "NoWorld"=some (some (.ref x7)))
  (aX8:PySem.W.nsIn K mainGlobals "TooMany"=some (some (.ref x8)))
  (xN:PySem.W.excIn K N tZ "ValueError.__new__"=true)
  (xL:K.lookup N=some ⟨.type "type",fdd,.cls fcd,fsl⟩)
  (yga:PySem.W.findIn K (.ref N) "__getattribute__"=some (some (.builtin "BaseException.__getattribute__")))
  (ygn:PySem.W.findIn K (.ref N) "__getattr__"=some none)
  (ycl:PySem.W.findIn K (.ref N) "__class__"=some (some (.builtin "object.__class__")))
  (ymb:PySem.W.mroIn K N (.type "BaseException")=some true)
  (ymo:PySem.W.mroIn K N (.type "object")=some true)
  (yty:PySem.W.clsIn K N=some cdN)
  (yve:PySem.W.kitOne K (.ref N) (.type "ValueError")=some true)
  (yfe:PySem.W.kitOne K (.ref N) (.ref fe)=some true)
  (yot:PySem.W.kitAny K (.ref N) [.ref x1,.ref x2,.ref x3,.ref x4,.ref x5,.ref x6,.ref x7,.ref x8]=some false)
  (yup:PySem.W.mroIn K N (.ref N)=some true)
  : ∃ fd:FuncData,(∀ (s:Shared) (v:Value),BindsTo s fd ⟨[v],[]⟩ [("_law_script",v)])∧∀ base:Heap,K.In base→base.Ns mainGlobals mg→cC l.prog w K mg base CX0 35 fa fd lE7 (spLaw K):=by
 have T:ClS K C:=⟨⟨pg,hd,po,sa⟩,n0,n1,n2⟩
 have TB:ClT K CB:=⟨⟨pgB,hdB,poB,saB⟩,n0B,n1B,n2B,n3B⟩
 have TX:ClX K CX:=⟨⟨pgX,hdX,poX,saX⟩,n0X,n1X⟩
 have GD:∃ u,mg "DEEPEST"=some u∧ar (.int 64) u:=⟨_,PySem.W.mg_of X G gI4,tI4,rfl⟩
 have Z:Bl mg:=⟨PySem.W.mg_none_of X G z_len,PySem.W.mg_none_of X G z_max,PySem.W.mg_none_of X G z_abs,PySem.W.mg_none_of X G z_divmod,PySem.W.mg_none_of X G z_list,PySem.W.mg_none_of X G z_tuple,PySem.W.mg_none_of X G z_range,PySem.W.mg_none_of X G z_int,PySem.W.mg_none_of X G z_str,PySem.W.mg_none_of X G z_repr,PySem.W.mg_none_of X G z_isinstance,PySem.W.mg_none_of X G z_all,PySem.W.mg_none_of X G z_set⟩
 have Gg:Gs K mg:=⟨⟨_,PySem.W.mg_of X G gL,tL,rfl⟩,⟨_,PySem.W.mg_of X G gI0,tI0,rfl⟩,⟨_,PySem.W.mg_of X G gI1,tI1,rfl⟩,⟨_,PySem.W.mg_of X G gI2,tI2,rfl⟩,⟨_,PySem.W.mg_of X G gI3,tI3,rfl⟩,wa,PySem.W.mg_of X G gW,fun H=>.inr ⟨_,_,_,lW,rfl,rfl,by show 5≤sizeLine; decide,.cons ⟨tw0,rfl⟩ (.cons ⟨tw1,rfl⟩ (.cons ⟨tw2,rfl⟩ (.cons ⟨tw3,rfl⟩ (.cons ⟨tw4,rfl⟩ (.nil)))))⟩⟩
 obtain⟨f48,fd48,F48,b48,a48,i48,k48⟩:=M48
 obtain⟨f49,fd49,F49,b49,a49,i49,k49⟩:=M49
 obtain⟨f50,fd50,F50,b50,a50,i50,k50⟩:=M50
 obtain⟨f51,fd51,F51,b51,a51,i51,k51⟩:=M51
 obtain⟨f52,fd52,F52,b52,a52,i52,k52⟩:=M52
 obtain⟨f53,fd53,F53,b53,a53,i53,k53⟩:=M53
 obtain⟨f54,fd54,F54,b54,a54,i54,k54⟩:=M54
 have FL:=jk (st:=aR) l47 c47 k47
 have e:=hfa.symm.trans (PySem.W.mg_of X G a47)
 cases e
 refine⟨PySem.W.fnOf "law" "law" (cK aR) (bD aR) (ag aR) .none kV47 dc47 pm47 an47 cd47 ct47,fun s v=>.of_eq rfl,fun base _ _=>?_⟩
 have dCell:=vT (P:=l.prog) (w:=w) (base:=base) F0 Z
 have dPot:=yb (P:=l.prog) (w:=w) (base:=base) F1 Z
 have dDraw:=vS (P:=l.prog) (w:=w) (base:=base) F2 Z
 have dUnlike:=qv (P:=l.prog) (w:=w) (base:=base) F3 Z dDraw
 have dBook:=vU (P:=l.prog) (w:=w) (base:=base) F4 Z dDraw dUnlike
 have dIl:=nY (P:=l.prog) (w:=w) (base:=base) F27 Z
 have dIn:=nX (P:=l.prog) (w:=w) (base:=base) F28 Z Gg
 have dCa:=tT (P:=l.prog) (w:=w) (base:=base) F29 Z
 have dKs:=tO (P:=l.prog) (w:=w) (base:=base) F30 Z Gg dIl dIn dCa
 have dK:=vO (P:=l.prog) (w:=w) (base:=base) F31 Z dIn
 have dPl:=qz (P:=l.prog) (w:=w) (base:=base) F32 Z Gg dIl dK
 have dSn:=kR (P:=l.prog) (w:=w) (base:=base) F33 Z Gg dIn
 have dTie:=ya (P:=l.prog) (w:=w) (base:=base) F34 Z dIl dSn dPl
 have dFu:=vR (P:=l.prog) (w:=w) (base:=base) F35 Z dIl dSn dPl dK
 have dIni:=vQ (P:=l.prog) (w:=w) (base:=base) F48 Z Gg T dIl dKs dTie dFu dCa
 have dTk:=tf (P:=l.prog) (w:=w) (base:=base) F49 Z T
 have dTt:=sZ (P:=l.prog) (w:=w) (base:=base) F50 Z T
 have dTf:=tj (P:=l.prog) (w:=w) (base:=base) F51 Z T
 have O:=wI (PySem.W.mg_of X G aN) xN
 have TN:Xs K N fe [x1,x2,x3,x4,x5,x6,x7,x8]:=⟨⟨yga,ygn,ycl,ymb,ymo,by rw [yty]; rfl⟩,yve,yfe,yot,yup⟩
 have ON:mg "NoSaying"=some (.ref N)∧j8 K N∧PySem.W.mroIn K N (.type "BaseException")=some true:=⟨PySem.W.mg_of X G aN,⟨_,_,_,xL⟩,ymb⟩
 have dIlO:=mf (P:=l.prog) (w:=w) (base:=base) F27 Z
 have dCm:=tJ (P:=l.prog) (w:=w) (base:=base) F36 Z O
 have dWt:=sT (P:=l.prog) (w:=w) (base:=base) F37 Z O dIlO
 have dInE:=tH (P:=l.prog) (w:=w) (base:=base) F28 Z Gg
 have dTm:=jN (P:=l.prog) (w:=w) (base:=base) F39 F38 Z TB (PySem.W.mg_none_of X G z_zip) O dWt dCm
 have dSa:=lY (P:=l.prog) (w:=w) (base:=base) F42 F41 F40 Z TB (PySem.W.mg_none_of X G z_dict) O dCm dWt dInE dTm 12
 have dTi:=nW (P:=l.prog) (w:=w) (base:=base) F52 Z T TB ⟨a49,i49,k49⟩ dTk b49 ⟨a50,i50,k50⟩ dTt b50 ⟨a51,i51,k51⟩ dTf b51
 have dLo:=tK (P:=l.prog) (w:=w) (base:=base) F43 Z GD ⟨mkB,a52,i52,kcB⟩ dTi (PySem.W.mg_of X G aCB) b52 dSa
 have dAll:=vW (P:=l.prog) (w:=w) (base:=base) F46 Z O dIlO dLo
 have dWn:=wY (P:=l.prog) (w:=w) (base:=base) F45 Z 12
 have dWs:=qu (P:=l.prog) (w:=w) (base:=base) F44 Z dLo dWn
 have dXi:=sY (P:=l.prog) (w:=w) (base:=base) F53 Z TX dAll
 have dXy:=sW (P:=l.prog) (w:=w) (base:=base) F54 Z TX
 have dMe:=tI (P:=l.prog) (w:=w) (base:=base) F5 Z
 have dVa:=x9 (P:=l.prog) (w:=w) (base:=base) F6 Z dDraw dMe
 have dTr:=sX (P:=l.prog) (w:=w) (base:=base) F7 Z dDraw dVa 2
 have dAt:=vV (P:=l.prog) (w:=w) (base:=base) F8 Z dDraw dTr
 have dSi:=tE (P:=l.prog) (w:=w) (base:=base) F9 Z dDraw dAt 4
 have dSy:=qw (P:=l.prog) (w:=w) (base:=base) F10 Z dSi
 have dAs:=wZ (P:=l.prog) (w:=w) (base:=base) F11 Z dDraw 7
 have dOd:=ye (P:=l.prog) (w:=w) (base:=base) F12 Z dDraw
 have dSp:=tw (P:=l.prog) (w:=w) (base:=base) F13 Z dDraw dOd
 have dWi:=sU (P:=l.prog) (w:=w) (base:=base) F14 Z 12
 have dSg:=vN (P:=l.prog) (w:=w) (base:=base) F15 Z
 have dNa:=tM (P:=l.prog) (w:=w) (base:=base) F18 Z
 have dKo:=tN (P:=l.prog) (w:=w) (base:=base) F16 F17 Z (PySem.W.mg_none_of X G z_zip) dSg
 have dIs:=tP (P:=l.prog) (w:=w) (base:=base) F20 F19 Z (PySem.W.mg_none_of X G z_dict) dSg dNa dKo 12
 have dTu:=pE (P:=l.prog) (w:=w) (base:=base) F21 Z 12
 have dDu:=yi (P:=l.prog) (w:=w) (base:=base) F26 Z dIs dTu
 have dJu:=vP (P:=l.prog) (w:=w) (base:=base) F22 Z (PySem.W.mg_none_of X G z_ValueError) TN (PySem.W.mg_of X G aF) (PySem.W.mg_of X G aX1) (PySem.W.mg_of X G aX2) (PySem.W.mg_of X G aX3) (PySem.W.mg_of X G aX4) (PySem.W.mg_of X G aX5) (PySem.W.mg_of X G aX6) (PySem.W.mg_of X G aX7) (PySem.W.mg_of X G aX8)
 have dTo:=vI (P:=l.prog) (w:=w) (base:=base) F23 Z ON TN dJu dLo
 have dLw:=yf (P:=l.prog) (w:=w) (base:=base) F24 Z ON TN dJu dWs
 have dOt:=yc (P:=l.prog) (w:=w) (base:=base) F25 Z ON TN dJu TX ⟨mkX,a53,i53,kcX⟩ dXi (PySem.W.mg_of X G aCX) b53 ⟨a54,i54,k54⟩ dXy b54
 exact yg FL Z dCell dPot dDraw dBook dSy dAs dSp dWi dDu dTo dLw dOt ⟨mk,a48,i48,kc⟩ dIni (PySem.W.mg_of X G aC) b48
theorem walk{l:PySem.W.OpenLaw}{q:Program}{loose:List Str}{XP:(Str→Option Value)→Heap→Prop}{YP:World→Heap→Prop}{d:DefRec}{K:Params→WB}(hn:l.most=some 63)(hdf:d.params.defaults=[])(hq:PyProof.Rows.importsNone q=true)
  (hY:∀ (w:World) (h:Heap),YP w h→(K w.params).In h)
  (F:∀ (w:World) (mg:Str→Option Value) (fa:Addr) (h:Heap),(K w.params).In h→h.Ns mainGlobals mg→mg d.name=some (.ref fa)→
   ∃ fd:FuncData,(∀ (s:Shared) (u:Value),BindsTo s fd ⟨[u],[]⟩ [("_law_script",u)])∧∀ base:Heap,(K w.params).In base→base.Ns mainGlobals mg→cC l.prog w (K w.params) mg base CX0 35 fa fd lE7 (spLaw (K w.params))) :
  PySem.W.WalkO q loose XP YP l.row.toRowW d [] (fun f vs=>PySem.call f vs):=
 L2.walk_of (n:=63) (k:=35) (x:="_law_script") (CX:=fun _=>CX0) (sp:=fun w=>spLaw (K w.params)) hn (by decide) hdf ⟨rfl,rfl,by decide,by decide⟩ hq hY F (fun _ _ a ns hl _ hS=>⟨a,ns,rfl,hS,hl,fun _=>rfl⟩) fun _ _ _ _ _ z=>z
theorem ar1{p:List Value→Prop}(h:∀ a:Value,p [a])(us:List Value)(e:us.length=1):p us:=by
 obtain⟨a,rfl⟩:=Few.le1 e
 exact h _
theorem ar2{p:List Value→Prop}(h:∀ a b:Value,p [a,b])(us:List Value)(e:us.length=2):p us:=by
 obtain⟨a,b,rfl⟩:=Few.le2 e
 exact h _ _
theorem ar3{p:List Value→Prop}(h:∀ a b c:Value,p [a,b,c])(us:List Value)(e:us.length=3):p us:=by
 obtain⟨a,b,c,rfl⟩:=Few.le3 e
 exact h _ _ _
theorem ar4{p:List Value→Prop}(h:∀ a b c d:Value,p [a,b,c,d])(us:List Value)(e:us.length=4):p us:=by
 obtain⟨a,b,c,d,rfl⟩:=Few.le4 e
 exact h _ _ _ _
theorem ar5{p:List Value→Prop}(h:∀ a b c d e:Value,p [a,b,c,d,e])(us:List Value)(e:us.length=5):p us:=by
 obtain⟨a,b,c,d,e,rfl⟩:=Few.le5 e
 exact h _ _ _ _ _
end FewE
open PySem PySem.W PyProof.Rows
set_option maxRecDepth 100000 in
set_option maxHeartbeats 0 in
theorem PySem.Challenge.cw_fewthings_k13_sayings_looked_over_holds : PySem.Challenge.rw_fewthings_k13_sayings_looked_over.Holds := by
 w_on; o_law; k_head; (case hw=>w_witness2)
 k_fill
 refine FewE.walk (l:=PySem.Challenge.rw_fewthings_k13_sayings_looked_over) rfl rfl (by first | rfl | decide +kernel) (fun w h Y=>PySem.W.kIn_of Y) ?F
 case F=>
  intro w mg fa h KX G hmg
  refine' FewE.all_mk KX G hmg (FewE.funAt_mk KX G ?a0 ?l0 ?c0 ?k0 fun _ _ _ _ _ _=>FewE.ar2 fun _ _=>rfl) (FewE.funAt_mk KX G ?a1 ?l1 ?c1 ?k1 fun _ _ _ _ _ _=>FewE.ar1 fun _=>rfl) (FewE.funAt_mk KX G ?a2 ?l2 ?c2 ?k2 fun _ _ _ _ _ _=>FewE.ar2 fun _ _=>rfl) (FewE.funAt_mk KX G ?a3 ?l3 ?c3 ?k3 fun _ _ _ _ _ _=>FewE.ar3 fun _ _ _=>rfl) (FewE.funAt_mk KX G ?a4 ?l4 ?c4 ?k4 fun _ _ _ _ _ _=>FewE.ar3 fun _ _ _=>rfl) (FewE.funAt_mk KX G ?a5 ?l5 ?c5 ?k5 fun _ _ _ _ _ _=>FewE.ar1 fun _=>rfl) (FewE.funAt_mk KX G ?a6 ?l6 ?c6 ?k6 fun _ _ _ _ _ _=>FewE.ar3 fun _ _ _=>rfl) (FewE.funAt_mk KX G ?a7 ?l7 ?c7 ?k7 fun _ _ _ _ _ _=>FewE.ar5 fun _ _ _ _ _=>rfl) (FewE.funAt_mk KX G ?a8 ?l8 ?c8 ?k8 fun _ _ _ _ _ _=>FewE.ar4 fun _ _ _ _=>rfl) (FewE.funAt_mk KX G ?a9 ?l9 ?c9 ?k9 fun _ _ _ _ _ _=>FewE.ar4 fun _ _ _ _=>rfl) (FewE.funAt_mk KX G ?a10 ?l10 ?c10 ?k10 fun _ _ _ _ _ _=>FewE.ar3 fun _ _ _=>rfl) (FewE.funAt_mk KX G ?a11 ?l11 ?c11 ?k11 fun _ _ _ _ _ _=>FewE.ar2 fun _ _=>rfl) (FewE.funAt_mk KX G ?a12 ?l12 ?c12 ?k12 fun _ _ _ _ _ _=>FewE.ar2 fun _ _=>rfl) (FewE.funAt_mk KX G ?a13 ?l13 ?c13 ?k13 fun _ _ _ _ _ _=>FewE.ar3 fun _ _ _=>rfl) (FewE.funAt_mk KX G ?a14 ?l14 ?c14 ?k14 fun _ _ _ _ _ _=>FewE.ar1 fun _=>rfl) (FewE.funAt_mk KX G ?a15 ?l15 ?c15 ?k15 fun _ _ _ _ _ _=>FewE.ar3 fun _ _ _=>rfl) (FewE.funAt_mk KX G ?a16 ?l16 ?c16 ?k16 fun _ _ _ _ _ _=>FewE.ar3 fun _ _ _=>rfl) (FewE.funAt_mk KX G ?a17 ?l17 ?c17 ?k17 fun _ _ _ _ _ _=>FewE.ar4 fun _ _ _ _=>rfl) (FewE.funAt_mk KX G ?a18 ?l18 ?c18 ?k18 fun _ _ _ _ _ _=>FewE.ar1 fun _=>rfl) (FewE.funAt_mk KX G ?a19 ?l19 ?c19 ?k19 fun _ _ _ _ _ _=>FewE.ar3 fun _ _ _=>rfl) (FewE.funAt_mk KX G ?a20 ?l20 ?c20 ?k20 fun _ _ _ _ _ _=>FewE.ar3 fun _ _ _=>rfl) (FewE.funAt_mk KX G ?a21 ?l21 ?c21 ?k21 fun _ _ _ _ _ _=>FewE.ar1 fun _=>rfl) (FewE.funAt_mk KX G ?a22 ?l22 ?c22 ?k22 fun _ _ _ _ _ _=>FewE.ar1 fun _=>rfl) (FewE.funAt_mk KX G ?a23 ?l23 ?c23 ?k23 fun _ _ _ _ _ _=>FewE.ar2 fun _ _=>rfl) (FewE.funAt_mk KX G ?a24 ?l24 ?c24 ?k24 fun _ _ _ _ _ _=>FewE.ar2 fun _ _=>rfl) (FewE.funAt_mk KX G ?a25 ?l25 ?c25 ?k25 fun _ _ _ _ _ _=>FewE.ar2 fun _ _=>rfl) (FewE.funAt_mk KX G ?a26 ?l26 ?c26 ?k26 fun _ _ _ _ _ _=>FewE.ar2 fun _ _=>rfl) (FewE.funAt_mk KX G ?a27 ?l27 ?c27 ?k27 fun _ _ _ _ _ _=>FewE.ar1 fun _=>rfl) (FewE.funAt_mk KX G ?a28 ?l28 ?c28 ?k28 fun _ _ _ _ _ _=>FewE.ar1 fun _=>rfl) (FewE.funAt_mk KX G ?a29 ?l29 ?c29 ?k29 fun _ _ _ _ _ _=>FewE.ar1 fun _=>rfl) (FewE.funAt_mk KX G ?a30 ?l30 ?c30 ?k30 fun _ _ _ _ _ _=>FewE.ar1 fun _=>rfl) (FewE.funAt_mk KX G ?a31 ?l31 ?c31 ?k31 fun _ _ _ _ _ _=>FewE.ar2 fun _ _=>rfl) (FewE.funAt_mk KX G ?a32 ?l32 ?c32 ?k32 fun _ _ _ _ _ _=>FewE.ar2 fun _ _=>rfl) (FewE.funAt_mk KX G ?a33 ?l33 ?c33 ?k33 fun _ _ _ _ _ _=>FewE.ar1 fun _=>rfl) (FewE.funAt_mk KX G ?a34 ?l34 ?c34 ?k34 fun _ _ _ _ _ _=>FewE.ar2 fun _ _=>rfl) (FewE.funAt_mk KX G ?a35 ?l35 ?c35 ?k35 fun _ _ _ _ _ _=>FewE.ar2 fun _ _=>rfl) (FewE.funAt_mk KX G ?a36 ?l36 ?c36 ?k36 fun _ _ _ _ _ _=>FewE.ar2 fun _ _=>rfl) (FewE.funAt_mk KX G ?a37 ?l37 ?c37 ?k37 fun _ _ _ _ _ _=>FewE.ar2 fun _ _=>rfl) (FewE.funAt_mk KX G ?a38 ?l38 ?c38 ?k38 fun _ _ _ _ _ _=>FewE.ar5 fun _ _ _ _ _=>rfl) (FewE.funAt_mk KX G ?a39 ?l39 ?c39 ?k39 fun _ _ _ _ _ _=>FewE.ar4 fun _ _ _ _=>rfl) (FewE.funAt_mk KX G ?a40 ?l40 ?c40 ?k40 fun _ _ _ _ _ _=>FewE.ar4 fun _ _ _ _=>rfl) (FewE.funAt_mk KX G ?a41 ?l41 ?c41 ?k41 fun _ _ _ _ _ _=>FewE.ar5 fun _ _ _ _ _=>rfl) (FewE.funAt_mk KX G ?a42 ?l42 ?c42 ?k42 fun _ _ _ _ _ _=>FewE.ar4 fun _ _ _ _=>rfl) (FewE.funAt_mk KX G ?a43 ?l43 ?c43 ?k43 fun _ _ _ _ _ _=>FewE.ar2 fun _ _=>rfl) (FewE.funAt_mk KX G ?a44 ?l44 ?c44 ?k44 fun _ _ _ _ _ _=>FewE.ar2 fun _ _=>rfl) (FewE.funAt_mk KX G ?a45 ?l45 ?c45 ?k45 fun _ _ _ _ _ _=>FewE.ar1 fun _=>rfl) (FewE.funAt_mk KX G ?a46 ?l46 ?c46 ?k46 fun _ _ _ _ _ _=>FewE.ar2 fun _ _=>rfl) ?a47 ?l47 ?c47 ?k47 ?aC ?aCB ?aCX (FewE.methAt_mk ?a48 ?i48 ?l48 ?c48 ?k48 fun _ _ _ _ _ _=>FewE.ar4 fun _ _ _ _=>rfl) (FewE.methAt_mk ?a49 ?i49 ?l49 ?c49 ?k49 fun _ _ _ _ _ _=>FewE.ar1 fun _=>rfl) (FewE.methAt_mk ?a50 ?i50 ?l50 ?c50 ?k50 fun _ _ _ _ _ _=>FewE.ar1 fun _=>rfl) (FewE.methAt_mk ?a51 ?i51 ?l51 ?c51 ?k51 fun _ _ _ _ _ _=>FewE.ar1 fun _=>rfl) (FewE.methAt_mk ?a52 ?i52 ?l52 ?c52 ?k52 fun _ _ _ _ _ _=>FewE.ar2 fun _ _=>rfl) (FewE.methAt_mk ?a53 ?i53 ?l53 ?c53 ?k53 fun _ _ _ _ _ _=>FewE.ar3 fun _ _ _=>rfl) (FewE.methAt_mk ?a54 ?i54 ?l54 ?c54 ?k54 fun _ _ _ _ _ _=>FewE.ar1 fun _=>rfl) ?pg ?hd ?po ?sa ?mk ?kc ?n0 ?n1 ?n2 ?pgB ?hdB ?poB ?saB ?mkB ?kcB ?n0B ?n1B ?n2B ?n3B ?pgX ?hdX ?poX ?saX ?mkX ?kcX ?n0X ?n1X ?z_len ?z_max ?z_abs ?z_divmod ?z_list ?z_tuple ?z_range ?z_int ?z_str ?z_repr ?z_isinstance ?z_all ?z_set ?z_dict ?z_zip ?z_ValueError ?gL ?gI0 ?gI1 ?gI2 ?gI3 ?gI4 ?gW ?lW ?aN ?aF ?aX1 ?aX2 ?aX3 ?aX4 ?aX5 ?aX6 ?aX7 ?aX8 ?xN ?xL ?yga ?ygn ?ycl ?ymb ?ymo ?yty ?yve ?yfe ?yot ?yup
  all_goals (try (first | k_is | kit_is | k_exc))
